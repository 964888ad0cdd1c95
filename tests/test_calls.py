"""The interface: lists of calls and lists of answers."""

import contextlib
import io
import unittest

from factrulesdesk.bench import answers
from factrulesdesk.refusals import UnknownCall
from tests.helper import CHECK, FIT, FORM, GCD, LOAD, VALUE, as_bytes, call


class Calls(unittest.TestCase):
    def test_each_answer_has_its_count_before_it(self):
        calls = (
            call(FORM) + call(LOAD, "level a 1;") + call(CHECK, "a!") + call(FORM) + call(VALUE, "f(1)")
            + call(FIT, "X", "2") + call(FIT, "1", "2") + call(VALUE, "X") + call(FIT, "", "") + call(LOAD, "x")
        )
        self.assertEqual(answers(calls), (
            [1, -3] + [3, 0, 0, 1] + [3, 0, 1, 1] + [12, 0] + as_bytes("level a 1;\n") + [7, 0, 2, 2]
            + as_bytes("f(1)") + [6, 0, 1, 1, 88, 1, 50] + [1, 1] + [1, -4] + [1, -5] + [1, -2]
        ))

    def test_empty_texts(self):
        self.assertEqual(answers([0, 0]), [1, 0])
        self.assertEqual(answers([1, 0, 2]), [3, 0, 0, 0, 1, 0])
        self.assertEqual(answers([3, 0]), [1, -4])
        self.assertEqual(answers([4, 0, 0]), [1, -5])

    def test_what_was_handed_in_is_not_changed(self):
        calls = call(LOAD, GCD) + call(FORM) + call(FIT, "f(X, X)", "f(1, 1)") + call(CHECK, "rule rule")
        before = list(calls)
        answers(calls)
        self.assertEqual(calls, before)
        self.assertEqual([id(number) for number in calls], [id(number) for number in before])

    def test_each_list_is_on_a_new_object(self):
        self.assertEqual(answers(call(LOAD, GCD)), [3, 0, 2, 1])
        self.assertEqual(answers(call(FORM)), [1, -3])
        calls = call(FORM) + call(LOAD, GCD) + call(FORM)
        self.assertEqual(answers(calls), answers(calls))

    def test_answers_are_lists_of_their_own(self):
        first = answers(call(LOAD, "") + call(FORM))
        first.append(5)
        self.assertEqual(answers(call(LOAD, "") + call(FORM)), [3, 0, 0, 0, 1, 0])

    def test_whole_numbers_are_plain(self):
        told = answers(call(LOAD, GCD) + call(FORM) + call(CHECK, "rule a { }") + call(FIT, "X", "-1"))
        self.assertIs(type(told), list)
        self.assertEqual({type(number) for number in told}, {int})

    def test_160_calls(self):
        self.assertEqual(answers([FORM] * 160), [1, -3] * 160)
        many = call(VALUE, "f(1)") * 160
        self.assertEqual(answers(many), ([7, 0, 2, 2] + as_bytes("f(1)")) * 160)

    def test_the_longest_texts(self):
        calls = call(CHECK, [255] * 4000) + call(LOAD, [0] * 4000) + call(FIT, [32] * 3000, [32] * 3000)
        self.assertEqual(answers(calls), [1, -1, 1, -1, 1, -5])

    def test_numbers_that_are_none_of_a_call(self):
        for number in [-1, 10, 1000000000000000000]:
            with self.assertRaises(UnknownCall):
                answers(call(FORM) + [number])

    def test_nothing_is_printed(self):
        printed = io.StringIO()
        with contextlib.redirect_stdout(printed), contextlib.redirect_stderr(printed):
            answers(call(LOAD, GCD) + call(FORM) + call(CHECK, "!"))
        self.assertEqual(printed.getvalue(), "")


if __name__ == "__main__":
    unittest.main()
