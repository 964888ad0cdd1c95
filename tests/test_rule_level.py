"""Promises 9 and 10: a rule of the held program, and a word's level."""

import unittest

from tests.helper import FORM, GCD, LEVEL, LOAD, RULE, answers, as_bytes, ask, call, form, level, on_loaded, rule

FAR = 1000000000000000000


def told(kept, taken, tests, put, fails, written):
    return [0, kept, taken, tests, put, fails] + as_bytes(written)


class Rules(unittest.TestCase):
    def test_counts_and_form(self):
        self.assertEqual(rule(GCD, 0), told(
            1, 1, 2, 1, 0, "rule gcd { keep g(N); take g(M); if 0 < N, N <= M; put g(M - N); }"
        ))
        self.assertEqual(rule("rule a{keep f,g;take h;if 1=1;put k,m,n;}", 0), told(
            2, 1, 1, 3, 0, "rule a { keep f, g; take h; if 1 = 1; put k, m, n; }"
        ))
        self.assertEqual(rule("rule a{take f,g,h;if 1=1,2=2,3=3,4=4;put a,b,c,d;}", 0), told(
            0, 3, 4, 4, 0, "rule a { take f, g, h; if 1 = 1, 2 = 2, 3 = 3, 4 = 4; put a, b, c, d; }"
        ))
        self.assertEqual(rule("rule a{keep f,g,h;}", 0), told(3, 0, 0, 0, 0, "rule a { keep f, g, h; }"))

    def test_rules_that_fail(self):
        self.assertEqual(rule("rule a{keep f;fail;}", 0), told(1, 0, 0, 0, 1, "rule a { keep f; fail; }"))
        self.assertEqual(rule("rule a{keep f;take g;if f<>g;fail;}", 0), told(
            1, 1, 1, 0, 1, "rule a { keep f; take g; if f <> g; fail; }"
        ))

    def test_forms(self):
        self.assertEqual(rule("rule a{take f(007,-0,X);put(g(((X+1))*2));}", 0), told(
            0, 1, 0, 1, 0, "rule a { take f(7, 0, X); put g((X + 1) * 2); }"
        ))

    def test_each_rule_by_its_number(self):
        names = ["r" + str(number) for number in range(12)]
        program = "level a 1;" + "".join("rule " + name + "{take f;}level " + name + " 0;" for name in names[:11])
        program += "rule r11 { take f; }"
        calls = [call(RULE, number) for number in range(12)]
        self.assertEqual(on_loaded(program, *calls), [
            told(0, 1, 0, 0, 0, "rule " + name + " { take f; }") for name in names
        ])

    def test_together_they_are_the_program(self):
        one, two, shown = on_loaded(GCD, call(RULE, 0), call(RULE, 1), call(FORM))
        self.assertEqual(shown[1:], one[6:] + [10] + two[6:] + [10] + as_bytes("level g 2;\n"))
        self.assertEqual(bytes(shown[1:]).decode("ascii"), form(GCD))

    def test_no_line_end(self):
        self.assertEqual(rule(GCD, 0)[-1], as_bytes("}")[0])
        self.assertNotIn(10, rule(GCD.replace(" ", "\n"), 0)[6:])

    def test_nothing_held(self):
        for number in [0, 1, -1, FAR, -FAR]:
            self.assertEqual(ask(call(RULE, number)), [[-3]])
        self.assertEqual(ask(call(LOAD, "rule"), call(RULE, 0)), [[-2], [-3]])

    def test_no_rule_of_this_number(self):
        for number in [-1, -2, 2, 3, FAR, -FAR]:
            self.assertEqual(rule(GCD, number), [-8], number)
        for number in [-1, 0, 1]:
            self.assertEqual(rule("", number), [-8], number)
            self.assertEqual(rule("level a 1;", number), [-8], number)

    def test_whole_numbers_are_plain(self):
        numbers = answers(call(LOAD, "rule a{keep f;fail;} rule b{keep f;}") + call(RULE, 0) + call(RULE, 1))
        self.assertEqual({type(number) for number in numbers}, {int})

    def test_what_the_interface_answers(self):
        self.assertEqual(answers([8, 0]), [1, -3])
        self.assertEqual(answers([1, 0, 8, 0]), [3, 0, 0, 0, 1, -8])
        self.assertEqual(answers(call(LOAD, "rule a { take f; }") + [8, 0])[4:], (
            [24] + told(0, 1, 0, 0, 0, "rule a { take f; }")
        ))


class Levels(unittest.TestCase):
    ITEMS = "level a 0; level b 1; level cD1 3; rule g { take h; } level abcdefghij 005;"

    def test_words_with_a_level_item(self):
        for word, expected in [("a", 0), ("b", 1), ("cD1", 3), ("abcdefghij", 5)]:
            self.assertEqual(level(self.ITEMS, word), [0, expected], word)
        self.assertEqual(level(GCD, "g"), [0, 2])

    def test_words_without_one(self):
        for word in ["c", "cd1", "cD", "cD12", "g", "h", "aa", "rules", "abcdefghi"]:
            self.assertEqual(level(self.ITEMS, word), [0, 0], word)
        self.assertEqual(level("", "a"), [0, 0])
        self.assertEqual(level(GCD, "gcd"), [0, 0])

    def test_each_level(self):
        program = "".join("level w" + str(number) + " " + str(number) + ";" for number in range(6))
        calls = [call(LEVEL, "w" + str(number)) for number in range(6)]
        self.assertEqual(on_loaded(program, *calls), [[0, number] for number in range(6)])

    def test_twelve_level_items(self):
        program = "".join("level w" + str(number) + " " + str(number % 6) + ";" for number in range(12))
        calls = [call(LEVEL, "w" + str(number)) for number in range(13)]
        self.assertEqual(on_loaded(program, *calls), [[0, number % 6] for number in range(12)] + [[0, 0]])

    def test_blanks_about(self):
        for word in [" b", "b ", "\nb\n", " \n b \n ", "b".ljust(3000), "b".rjust(3000)]:
            self.assertEqual(level(self.ITEMS, word), [0, 1], word)

    def test_texts_that_are_not_one_word(self):
        for word in [
            "", " ", "\n", "X", "B", "1", "007", "-1", "b b", "a b", "b,", "b;", "(b)", "b(1)", "b + 1", "-b", "b!",
            "!b", "!", "rule", "keep", "take", "if", "put", "fail", "level", " level ", "level b", "level b 1;", "b 1",
            "1b", "abcdefghijk", "1234567890", "b\tb", "\tb", "b = b",
        ]:
            self.assertEqual(level(self.ITEMS, word), [-11], word)
        self.assertEqual(level(self.ITEMS, [98, 0]), [-11])
        self.assertEqual(level(self.ITEMS, [226, 98]), [-11])

    def test_too_long(self):
        self.assertEqual(level(self.ITEMS, "b".ljust(3001)), [-1])
        self.assertEqual(level(self.ITEMS, "!" * 3001), [-1])
        self.assertEqual(level(self.ITEMS, "b" * 4000), [-1])
        self.assertEqual(level(self.ITEMS, "b" * 3000), [-11])

    def test_nothing_held(self):
        for word in ["b", "", "!", "b" * 3001, "rule"]:
            self.assertEqual(ask(call(LEVEL, word)), [[-3]])

    def test_the_program_that_was_loaded_last(self):
        answered = ask(call(LOAD, "level a 1;"), call(LEVEL, "a"), call(LOAD, "level a 2;"), call(LEVEL, "a"),
                       call(LOAD, "level a 6;"), call(LEVEL, "a"), call(LOAD, ""), call(LEVEL, "a"))
        self.assertEqual(answered[1::2], [[0, 1], [0, 2], [0, 2], [0, 0]])

    def test_what_the_interface_answers(self):
        self.assertEqual(answers(call(LOAD, "level a 4;") + [9, 1, 97]), [3, 0, 0, 1, 2, 0, 4])
        self.assertEqual(answers([1, 0, 9, 0]), [3, 0, 0, 0, 1, -11])
        self.assertEqual(answers([9, 0]), [1, -3])


if __name__ == "__main__":
    unittest.main()
