"""The interface: lists of calls and lists of answers."""

import contextlib
import io
import unittest

from factrulesdesk.bench import answers
from factrulesdesk.refusals import UnknownCall
from tests.helper import (
    CHECK, FIT, FORM, GCD, LEVEL, LOAD, RULE, TEST, USE, VALUE, WORK, as_bytes, binding, call, puts, split, worth,
)

DONE = [0, 0, 1, 0, 0, 0] + as_bytes("rule done { take g(0); }")

# Each of the ten calls, with what it answers where the document's program is held.
MIXED = [
    (call(LOAD, GCD), [0, 2, 1]),
    (call(USE, 0, "g(4), g(6)"), puts("g(2)")),
    (call(WORK, "f(X)", "f(5)", "X * X"), worth("25")),
    (call(RULE, 1), DONE),
    (call(LEVEL, " g "), [0, 2]),
    (call(TEST, "X", "3", "X < 4"), [1]),
    (call(CHECK, "rule a { }"), [0, 5, 13]),
    (call(FORM), None),
    (call(VALUE, "f(1)"), [0, 2, 2] + as_bytes("f(1)")),
    (call(FIT, "X", "2"), binding(("X", "2"))),
    (call(USE, -1, "g(4)"), [-8]),
    (call(USE, 0, "g(4)"), [-10]),
    (call(LOAD, "rule"), [-2]),
    (call(USE, 1, "g(0)"), [0, 0]),
    (call(LEVEL, "level"), [-11]),
    (call(WORK, "X", "1", "X / 0"), [2]),
]


class Calls(unittest.TestCase):
    def test_each_answer_has_its_count_before_it(self):
        calls = (
            call(FORM) + call(LOAD, "level a 1;") + call(CHECK, "a!") + call(FORM) + call(VALUE, "f(1)")
            + call(FIT, "X", "2") + call(FIT, "1", "2") + call(VALUE, "X") + call(FIT, "", "") + call(LOAD, "x")
        )
        self.assertEqual(answers(calls), (
            [1, -3] + [3, 0, 0, 1] + [3, 0, 1, 1] + [12, 0] + as_bytes("level a 1;\n") + [7, 0, 2, 2]
            + as_bytes("f(1)") + [6, 0, 1, 1, 88, 1, 50] + [1, 1] + [1, -4] + [1, -5] + [1, -2]
        ))

    def test_empty_texts(self):
        self.assertEqual(answers([0, 0]), [1, 0])
        self.assertEqual(answers([1, 0, 2]), [3, 0, 0, 0, 1, 0])
        self.assertEqual(answers([3, 0]), [1, -4])
        self.assertEqual(answers([4, 0, 0]), [1, -5])

    def test_what_was_handed_in_is_not_changed(self):
        calls = call(LOAD, GCD) + call(FORM) + call(FIT, "f(X, X)", "f(1, 1)") + call(CHECK, "rule rule")
        calls += [number for one, told in MIXED for number in one]
        before = list(calls)
        answers(calls)
        self.assertEqual(calls, before)
        self.assertEqual([id(number) for number in calls], [id(number) for number in before])

    def test_the_ten_calls_mixed(self):
        for times in [1, 2, 10]:
            calls = [one for one, told in MIXED] * times
            parts = split(answers([number for one in calls for number in one]))
            self.assertEqual(len(parts), 16 * times)
            for part, expected in zip(parts, [told for one, told in MIXED] * times):
                if expected is not None:
                    self.assertEqual(part, expected)
                else:
                    self.assertTrue(bytes(part[1:]).startswith(b"rule gcd { keep g(N); "))

    def test_calls_that_ask_for_a_program_before_one_is_held(self):
        calls = call(USE, 0, "g(0)") + call(RULE, 0) + call(LEVEL, "g") + call(FORM)
        self.assertEqual(answers(calls), [1, -3] * 4)
        others = call(WORK, "X", "1", "X") + call(TEST, "X", "1", "X = 1")
        self.assertEqual(answers(others + calls), [2, 0, 49] + [1, 1] + [1, -3] * 4)

    def test_refused_calls_change_nothing(self):
        refused = (
            call(USE, 9, "g") + call(USE, 0, "!") + call(USE, 0, "g") + call(USE, 0, " " * 3001) + call(RULE, -1)
            + call(LEVEL, "G") + call(WORK, "", "", "") + call(TEST, "X", "1", "")
        )
        held = call(FORM) + call(RULE, 1) + call(LEVEL, "g") + call(USE, 1, "g(0)")
        told = split(answers(call(LOAD, GCD) + held + refused + held))
        self.assertEqual(told[5:13], [[-8], [-9], [-10], [-1], [-8], [-11], [-5], [-7]])
        self.assertEqual(told[1:5], told[13:])

    def test_each_list_is_on_a_new_object(self):
        self.assertEqual(answers(call(LOAD, GCD)), [3, 0, 2, 1])
        self.assertEqual(answers(call(FORM)), [1, -3])
        calls = call(FORM) + call(LOAD, GCD) + call(FORM)
        self.assertEqual(answers(calls), answers(calls))

    def test_answers_are_lists_of_their_own(self):
        first = answers(call(LOAD, "") + call(FORM))
        first.append(5)
        self.assertEqual(answers(call(LOAD, "") + call(FORM)), [3, 0, 0, 0, 1, 0])

    def test_whole_numbers_are_plain(self):
        told = answers(call(LOAD, GCD) + call(FORM) + call(CHECK, "rule a { }") + call(FIT, "X", "-1"))
        self.assertIs(type(told), list)
        self.assertEqual({type(number) for number in told}, {int})

    def test_160_calls(self):
        self.assertEqual(answers([FORM] * 160), [1, -3] * 160)
        self.assertEqual(answers([RULE, 0] * 160), [1, -3] * 160)
        self.assertEqual(answers([LEVEL, 0] * 160), [1, -3] * 160)
        self.assertEqual(answers([USE, 0, 0] * 160), [1, -3] * 160)
        self.assertEqual(answers(call(TEST, "X", "1", "X = 1") * 160), [1, 1] * 160)
        many = call(VALUE, "f(1)") * 160
        self.assertEqual(answers(many), ([7, 0, 2, 2] + as_bytes("f(1)")) * 160)

    def test_the_longest_texts(self):
        calls = call(CHECK, [255] * 4000) + call(LOAD, [0] * 4000) + call(FIT, [32] * 3000, [32] * 3000)
        self.assertEqual(answers(calls), [1, -1, 1, -1, 1, -5])
        calls = call(WORK, [255] * 4000, [0] * 4000, [32] * 4000) + call(LEVEL, [97] * 3000)
        self.assertEqual(answers(calls), [1, -1, 1, -3])
        self.assertEqual(answers(call(TEST, [255] * 4000, [0] * 4000, [32] * 4000)), [1, -1])
        self.assertEqual(answers(call(LOAD, GCD) + call(USE, 0, [255] * 4000)), [3, 0, 2, 1, 1, -1])

    def test_the_longest_list(self):
        one = call(WORK, "X", "1", "1" + "+X" * 1300)
        many = one * 6
        self.assertLessEqual(len(many), 16000)
        self.assertEqual(answers(many), ([5, 0] + as_bytes("1301")) * 6)

    def test_numbers_that_are_none_of_a_call(self):
        for number in [-1, 10, 1000000000000000000]:
            with self.assertRaises(UnknownCall):
                answers(call(FORM) + [number])

    def test_nothing_is_printed(self):
        printed = io.StringIO()
        with contextlib.redirect_stdout(printed), contextlib.redirect_stderr(printed):
            answers(call(LOAD, GCD) + call(FORM) + call(CHECK, "!"))
        self.assertEqual(printed.getvalue(), "")


if __name__ == "__main__":
    unittest.main()
