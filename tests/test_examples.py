"""The document's examples of check, load, form and fit, as they stand."""

import unittest

from tests.helper import GCD, check, fit, form, load


class Examples(unittest.TestCase):
    def test_check(self):
        self.assertEqual(check(GCD), [0])
        self.assertEqual(check("rule a { take X; put f(Y); }"), [0, 14, 17, 23, 19])
        self.assertEqual(check("rule a { }"), [0, 5, 13])
        self.assertEqual(check("rule a { take f(1,2,3,4); }"), [0, 21, 3])
        self.assertEqual(check("rule rule"), [0, 5, 3])
        self.assertEqual(check("a!"), [0, 1, 1])

    def test_load(self):
        self.assertEqual(load(GCD), [0, 2, 1])

    def test_form(self):
        self.assertEqual(form(GCD), (
            "rule gcd { keep g(N); take g(M); if 0 < N, N <= M; put g(M - N); }\n"
            "rule done { take g(0); }\n"
            "level g 2;\n"
        ))

    def test_fit(self):
        self.assertEqual(fit("f(X, g(Y), X)", "f(2, g(a), 2)"), [0, 2, 1, 88, 1, 50, 1, 89, 1, 97])
        self.assertEqual(fit("f(X, g(Y), X)", "f(2, g(a), 3)"), [1])


if __name__ == "__main__":
    unittest.main()
