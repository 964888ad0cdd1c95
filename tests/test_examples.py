"""The document's examples, as they stand."""

import unittest

from tests.helper import GCD, as_bytes, check, fit, form, holds, load, rule, use, work


class Examples(unittest.TestCase):
    def test_check(self):
        self.assertEqual(check(GCD), [0])
        self.assertEqual(check("rule a { take X; put f(Y); }"), [0, 14, 17, 23, 19])
        self.assertEqual(check("rule a { }"), [0, 5, 13])
        self.assertEqual(check("rule a { take f(1,2,3,4); }"), [0, 21, 3])
        self.assertEqual(check("rule rule"), [0, 5, 3])
        self.assertEqual(check("a!"), [0, 1, 1])

    def test_load(self):
        self.assertEqual(load(GCD), [0, 2, 1])

    def test_form(self):
        self.assertEqual(form(GCD), (
            "rule gcd { keep g(N); take g(M); if 0 < N, N <= M; put g(M - N); }\n"
            "rule done { take g(0); }\n"
            "level g 2;\n"
        ))

    def test_fit(self):
        self.assertEqual(fit("f(X, g(Y), X)", "f(2, g(a), 2)"), [0, 2, 1, 88, 1, 50, 1, 89, 1, 97])
        self.assertEqual(fit("f(X, g(Y), X)", "f(2, g(a), 3)"), [1])

    def test_use(self):
        self.assertEqual(use(GCD, 0, "g(4), g(6)"), [0, 1, 4, 103, 40, 50, 41])
        self.assertEqual(as_bytes("g(2)"), [103, 40, 50, 41])
        self.assertEqual(use(GCD, 0, "g(6), g(4)"), [2])
        self.assertEqual(use(GCD, 1, "g(0)"), [0, 0])

    def test_rule(self):
        self.assertEqual(rule(GCD, 1), [0, 0, 1, 0, 0, 0] + as_bytes("rule done { take g(0); }"))

    def test_work(self):
        self.assertEqual(work("X", "7", "p(X % -2, -X / 2)"), [0] + as_bytes("p(-1, -4)"))
        self.assertEqual(work("a", "a", "-7 / 2"), [0] + as_bytes("-4"))
        self.assertEqual(work("a", "a", "-7 % 2"), [0] + as_bytes("1"))
        self.assertEqual(work("a", "a", "7 % -2"), [0] + as_bytes("-1"))
        self.assertEqual(work("a", "a", "- - 1"), [-6])
        self.assertEqual(work("a", "a", "- (- 1)"), [0] + as_bytes("1"))

    def test_test(self):
        self.assertEqual(holds("X", "a", "X < 2"), [0])


if __name__ == "__main__":
    unittest.main()
