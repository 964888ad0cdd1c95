"""Promise 7: whether a test holds."""

import unittest

from tests.helper import TEST, answers, call, holds

SIGNS = ("=", "<>", "<", "<=")


def alone(test):
    """Ask for the test with the empty binding."""
    return holds("a", "a", test)


class Holding(unittest.TestCase):
    def of_all_signs(self, left, right, expected):
        """Compare what the four signs tell of two sides."""
        told = [alone(f"{left} {sign} {right}") for sign in SIGNS]
        self.assertEqual(told, [[one] for one in expected], (left, right))

    def test_numbers(self):
        self.of_all_signs("1", "1", [1, 0, 0, 1])
        self.of_all_signs("1", "2", [0, 1, 1, 1])
        self.of_all_signs("2", "1", [0, 1, 0, 0])
        self.of_all_signs("-1", "1", [0, 1, 1, 1])
        self.of_all_signs("1", "-1", [0, 1, 0, 0])
        self.of_all_signs("-2", "-1", [0, 1, 1, 1])
        self.of_all_signs("9", "10", [0, 1, 1, 1])
        self.of_all_signs("007", "7", [1, 0, 0, 1])
        self.of_all_signs("-0", "0", [1, 0, 0, 1])
        self.of_all_signs("-999999999", "999999999", [0, 1, 1, 1])
        self.of_all_signs("1 + 2 * 3", "10 - 3", [1, 0, 0, 1])

    def test_terms(self):
        self.of_all_signs("a", "a", [1, 0, 0, 0])
        self.of_all_signs("a", "b", [0, 1, 0, 0])
        self.of_all_signs("b", "a", [0, 1, 0, 0])
        self.of_all_signs("f(1)", "f(1)", [1, 0, 0, 0])
        self.of_all_signs("f(1)", "f(2)", [0, 1, 0, 0])
        self.of_all_signs("f(1)", "g(1)", [0, 1, 0, 0])
        self.of_all_signs("f(1)", "f(1, 1)", [0, 1, 0, 0])
        self.of_all_signs("f", "f(1)", [0, 1, 0, 0])
        self.of_all_signs("f(1 + 1, g(a))", "f(2, g(a))", [1, 0, 0, 0])
        self.of_all_signs("f(2, g(a))", "f(2, g(b))", [0, 1, 0, 0])
        self.of_all_signs("f(1, 2)", "f(2, 1)", [0, 1, 0, 0])

    def test_a_number_and_a_term(self):
        for number, term in [("1", "a"), ("0", "f(0)"), ("-5", "b(1, 2, 3)")]:
            self.of_all_signs(number, term, [0, 1, 0, 0])
            self.of_all_signs(term, number, [0, 1, 0, 0])

    def test_a_side_that_is_worth_nothing(self):
        for nothing in ["1 / 0", "X", "a + 1", "999999999 + 1", "f(1 % 0)", "-a", "f(g(h(i(j(k(1))))))"]:
            for other in ["1", "a", "f(1)", "-999999999", nothing]:
                self.of_all_signs(nothing, other, [0, 0, 0, 0])
                self.of_all_signs(other, nothing, [0, 0, 0, 0])

    def test_the_binding(self):
        self.assertEqual(holds("X", "5", "X = 5"), [1])
        self.assertEqual(holds("X", "5", "X = 6"), [0])
        self.assertEqual(holds("f(X, Y)", "f(1, 2)", "X < Y"), [1])
        self.assertEqual(holds("f(X, Y)", "f(1, 2)", "Y < X"), [0])
        self.assertEqual(holds("f(X, Y)", "f(g(1), 1)", "X = g(Y)"), [1])
        self.assertEqual(holds("f(X, Y)", "f(1, 2)", "X <> Z"), [0])
        self.assertEqual(holds("f(X, X)", "f(a, a)", "X = a"), [1])

    def test_2_if_they_do_not_match(self):
        for pattern, matched in [("1", "2"), ("f(X, X)", "f(1, 2)"), ("a", "1"), ("f(X)", "f")]:
            for test in ["1 = 1", "1 = 2", "X = 1 / 0"]:
                self.assertEqual(holds(pattern, matched, test), [2])

    def test_blanks(self):
        self.assertEqual(alone("1<2"), [1])
        self.assertEqual(alone("1<=1"), [1])
        self.assertEqual(alone("1<>1"), [0])
        self.assertEqual(alone(" \n1\n=\n1 "), [1])
        self.assertEqual(alone("1<-1"), [0])
        self.assertEqual(alone("-1=-1"), [1])

    def test_long_sides(self):
        self.assertEqual(alone("+".join(["1"] * 749) + "=" + "+".join(["1"] * 749)), [1])
        self.assertEqual(alone("(" * 20 + "1" + ")" * 20 + "<=" + "(" * 20 + "1" + ")" * 20), [1])
        self.assertEqual(alone("1=" + "(" * 21 + "1" + ")" * 21), [-7])


class Refusals(unittest.TestCase):
    def test_texts_that_are_no_tests(self):
        for test in [
            "", " ", "1", "a", "f(1)", "1 =", "= 1", "1 = 1 = 1", "1 < 2 < 3", "1 == 1", "1 < = 1", "1 < > 1", "1 > 2",
            "2 >= 1", "1 => 2", "(1 = 1)", "(1) = (1", "1 = 1,", "1 = 1, 2 = 2", "1 = 1;", "1 = - - 1", "1 = 1 1",
            "f(1 = 1)", "rule = 1", "1 = level", "1 != 1", "abcdefghijk = 1", "1 = 1234567890", "if 1 = 1", "1 =< 2",
            "1 = 1)", "X(1) = 1",
        ]:
            self.assertEqual(alone(test), [-7], test)
        self.assertEqual(alone([49, 61, 49, 0]), [-7])

    def test_the_order_of_refusals(self):
        long = "!" * 3001
        for texts in [(long, "1", "1 = 1"), ("X", long, "1 = 1"), ("X", "1", long), (long, "!", "!"), ("!", long, "!"),
                      ("!", "!", long), (long, long, long), ("X", "1", "1 = 1".ljust(3001))]:
            self.assertEqual(holds(*texts), [-1])
        self.assertEqual(holds("!", "!", "!"), [-5])
        self.assertEqual(holds("!", "1", "!"), [-5])
        self.assertEqual(holds("!", "1", "1 = 1"), [-5])
        self.assertEqual(holds("X", "!", "!"), [-4])
        self.assertEqual(holds("X", "!", "1 = 1"), [-4])
        self.assertEqual(holds("X", "Y", "1 = 1"), [-4])
        self.assertEqual(holds("X", "1", "!"), [-7])

    def test_refusals_come_before_2(self):
        self.assertEqual(holds("1", "2", "1"), [-7])
        self.assertEqual(holds("a", "f(X)", "1 = 1"), [-4])
        self.assertEqual(holds("1 + 1", "a", "1 = 1"), [-5])
        self.assertEqual(holds("1", "2", "1 = 1".ljust(3001)), [-1])
        self.assertEqual(holds("1", "2".ljust(3001), "1 = 1"), [-1])
        self.assertEqual(holds("1".ljust(3001), "2", "1 = 1"), [-1])

    def test_3000_bytes(self):
        self.assertEqual(holds("X".ljust(3000), "5".ljust(3000), "X = 5".ljust(3000)), [1])

    def test_what_the_interface_answers(self):
        self.assertEqual(answers(call(TEST, "X", "7", "X = 7")), [1, 1])
        self.assertEqual(answers(call(TEST, "X", "7", "X = 8")), [1, 0])
        self.assertEqual(answers(call(TEST, "1", "7", "X = 8")), [1, 2])
        self.assertEqual(answers([6, 0, 0, 0]), [1, -5])
        for told in answers(call(TEST, "X", "7", "X = 7") + call(TEST, "X", "7", "X = 8")):
            self.assertIs(type(told), int)


if __name__ == "__main__":
    unittest.main()
