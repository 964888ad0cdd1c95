"""Promise 5: a pattern is matched with a value."""

import unittest

from tests.helper import binding, fit


class Matching(unittest.TestCase):
    def test_numbers(self):
        self.assertEqual(fit("7", "007"), [0, 0])
        self.assertEqual(fit("-7", "- 7"), [0, 0])
        self.assertEqual(fit("-0", "0"), [0, 0])
        self.assertEqual(fit("0", "-0"), [0, 0])
        self.assertEqual(fit("7", "-7"), [1])
        self.assertEqual(fit("7", "8"), [1])
        self.assertEqual(fit("7", "a"), [1])
        self.assertEqual(fit("7", "a(7)"), [1])

    def test_terms(self):
        self.assertEqual(fit("a", "a"), [0, 0])
        self.assertEqual(fit("f(1, a)", "f(1,a)"), [0, 0])
        for pattern, given in [
            ("a", "b"), ("a", "1"), ("a", "a(1)"), ("a(1)", "a"), ("a(X)", "a"), ("a(X)", "a(1, 2)"),
            ("a(X, Y)", "a(1)"), ("a(X)", "b(1)"), ("a(X)", "1"), ("a(1)", "a(2)"), ("a(b(X))", "a(c(1))"),
            ("ab", "a"), ("a", "ab"), ("aB", "ab"), ("f(X, Y, Z)", "f(1, 2)"), ("f(g(X))", "f(1)"),
        ]:
            self.assertEqual(fit(pattern, given), [1], (pattern, given))

    def test_an_unknown_matches_every_value(self):
        for given in ["1", "-999999999", "a", "f(1, g(a), -2)", "a(b(c(d(e(f)))))"]:
            self.assertEqual(fit("X", given), binding(("X", given)))
        self.assertEqual(fit("Xyz1", " f( 007 ,-0) "), binding(("Xyz1", "f(7, 0)")))
        self.assertEqual(fit("Abcdefghij", "abcdefghij"), binding(("Abcdefghij", "abcdefghij")))

    def test_the_order_of_a_binding(self):
        self.assertEqual(fit("f(Z, A, M)", "f(1, 2, 3)"), binding(("Z", "1"), ("A", "2"), ("M", "3")))
        self.assertEqual(fit("f(g(Z, B), A, Z)", "f(g(1, 2), 3, 1)"), binding(("Z", "1"), ("B", "2"), ("A", "3")))
        self.assertEqual(
            fit("f(g(h(B), A), A, C)", "f(g(h(x), 10), 10, k(0))"), binding(("B", "x"), ("A", "10"), ("C", "k(0)"))
        )

    def test_unknowns_that_come_twice(self):
        self.assertEqual(fit("f(X, X)", "f(1, 1)"), binding(("X", "1")))
        self.assertEqual(fit("f(X, X)", "f(01, 1)"), binding(("X", "1")))
        self.assertEqual(fit("f(X, X, X)", "f(g(a, 1), g(a, 1), g(a, 01))"), binding(("X", "g(a, 1)")))
        self.assertEqual(fit("f(g(X), X)", "f(g(a), a)"), binding(("X", "a")))
        for given in ["f(1, 2)", "f(1, a)", "f(a, 1)", "f(a, b)", "f(g(1), g(2))", "f(g(1), g(1, 1))", "f(a, a(1))",
                      "f(g(1), h(1))", "f(1, -1)"]:
            self.assertEqual(fit("f(X, X)", given), [1], given)

    def test_great_and_small_letters_in_names(self):
        self.assertEqual(fit("f(Xa, XA)", "f(1, 2)"), binding(("Xa", "1"), ("XA", "2")))

    def test_patterns_that_are_larger_than_values(self):
        self.assertEqual(fit("f(" * 20 + "X" + ")" * 20, "f(f(1))"), [1])
        self.assertEqual(fit("f(" * 6 + "X" + ")" * 6, "f(f(f(f(f(1)))))"), [1])
        wide = "f(" + ", ".join(["g(X, X, h(X, X, X))"] * 3) + ")"
        self.assertEqual(fit(wide, "f(1, 2, 3)"), [1])

    def test_texts_that_are_no_patterns(self):
        for pattern in ["", " ", "-X", "-a", "- -1", "X Y", "X,", "f()", "f(1,2,3,4)", "f((X))", "(X)", "X + 1", "1 1",
                        "rule", "f(keep)", "!", "Abcdefghijk", "1234567890", "f(" * 21 + "X" + ")" * 21, "X(1)", "f(X",
                        "f(X))", "f(1 = 1)"]:
            self.assertEqual(fit(pattern, "1"), [-5], pattern)

    def test_texts_that_are_no_values(self):
        for given in ["", "X", "f(X)", "1 1", "f()", "a(b(c(d(e(f(g))))))", "!", "rule", "1 + 1", "1000000000"]:
            self.assertEqual(fit("Y", given), [-4], given)

    def test_the_order_of_refusals(self):
        long = "!" * 3001
        self.assertEqual(fit(long, "1"), [-1])
        self.assertEqual(fit("X", long), [-1])
        self.assertEqual(fit(long, long), [-1])
        self.assertEqual(fit("!", long), [-1])
        self.assertEqual(fit(long, "!"), [-1])
        self.assertEqual(fit("!", "!"), [-5])
        self.assertEqual(fit("!", "1"), [-5])
        self.assertEqual(fit("X", "!"), [-4])
        self.assertEqual(fit("1", "X"), [-4])

    def test_3000_bytes(self):
        self.assertEqual(fit("X".ljust(3000), "a".ljust(3000)), binding(("X", "a")))
        self.assertEqual(fit("X".ljust(3001), "a"), [-1])
        self.assertEqual(fit("X", "a".ljust(3001)), [-1])


if __name__ == "__main__":
    unittest.main()
