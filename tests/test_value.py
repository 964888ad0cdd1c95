"""Promise 4: the value that a text is."""

import unittest

from tests.helper import as_bytes, value


def told(parts, depth, written):
    return [0, parts, depth] + as_bytes(written)


class Values(unittest.TestCase):
    def test_numbers(self):
        for text, expected in [
            ("0", "0"), ("7", "7"), ("007", "7"), ("-7", "-7"), ("- 007", "-7"), ("-0", "0"), ("- 000", "0"),
            ("000000000", "0"), ("999999999", "999999999"), ("-999999999", "-999999999"), ("-\n1", "-1"),
        ]:
            self.assertEqual(value(text), told(1, 1, expected), text)

    def test_numbers_out_of_range(self):
        for text in ["1000000000", "-1000000000", "0000000001", "f(0000000000)"]:
            self.assertEqual(value(text), [-4], text)

    def test_terms_with_none_to_three_arguments(self):
        self.assertEqual(value("a"), told(1, 1, "a"))
        self.assertEqual(value("aB1"), told(1, 1, "aB1"))
        self.assertEqual(value("f(1)"), told(2, 2, "f(1)"))
        self.assertEqual(value("f(1,a)"), told(3, 2, "f(1, a)"))
        self.assertEqual(value("f(1,g(-2),003)"), told(5, 3, "f(1, g(-2), 3)"))
        self.assertEqual(value("f(g(1),g(h(2)),a)"), told(7, 4, "f(g(1), g(h(2)), a)"))

    def test_terms_that_are_none(self):
        for text in ["f()", "f(1,2,3,4)", "f(1", "f 1", "f(1,)", "f(,)", "f((1))", "(f)", "(1)", "f(1))", "f(a b)"]:
            self.assertEqual(value(text), [-4], text)

    def test_20_and_21_parts(self):
        six = "f(1, g(2), h(3))"
        self.assertEqual(value("k(" + six + ", " + six + ", " + six + ")"), told(19, 4, f"k({six}, {six}, {six})"))
        seven = "f(g(1), g(2), h(3))"
        self.assertEqual(value(f"k({six}, {six}, {seven})"), told(20, 4, f"k({six}, {six}, {seven})"))
        self.assertEqual(value(f"k({six}, {seven}, {seven})"), [-4])

    def test_depth_6_and_7(self):
        self.assertEqual(value("a(b(c(d(e(f)))))"), told(6, 6, "a(b(c(d(e(f)))))"))
        self.assertEqual(value("a(b(c(d(e(1)))))"), told(6, 6, "a(b(c(d(e(1)))))"))
        self.assertEqual(value("a(b(c(d(e(f(g))))))"), [-4])
        self.assertEqual(value("a(b(c(d(e(f(1))))))"), [-4])
        self.assertEqual(value("a(1, b, b(c(d(e(f)))))"), told(8, 6, "a(1, b, b(c(d(e(f)))))"))
        self.assertEqual(value("a(1, b, b(c(d(e(f(1))))))"), [-4])
        self.assertEqual(value("f(" * 20 + "1" + ")" * 20), [-4])
        self.assertEqual(value("f(" * 1000), [-4])

    def test_unknowns(self):
        for text in ["X", "f(X)", "f(1, g(2, Xy))", "-X"]:
            self.assertEqual(value(text), [-4], text)

    def test_something_behind(self):
        for text in ["1 2", "a b", "a;", "f(1) g", "f(1),", "f(1)(2)", "1 - 1", "12a", "1 = 1", "a)", "- 1 1"]:
            self.assertEqual(value(text), [-4], text)

    def test_blanks_about(self):
        self.assertEqual(value(" \n f ( 1 , a ) \n"), told(3, 2, "f(1, a)"))
        self.assertEqual(value("  5  "), told(1, 1, "5"))
        self.assertEqual(value("\ta"), [-4])

    def test_no_values(self):
        for text in ["", " ", "-", "- -1", "--1", "-a", "+1", "!", "a!", "1.", "rule", "level", "f(rule)", "fail",
                     "abcdefghijk", "a(abcdefghijk)", "1 + 1"]:
            self.assertEqual(value(text), [-4], text)
        self.assertEqual(value([97, 200]), [-4])
        self.assertEqual(value([0]), [-4])

    def test_words_of_ten_signs(self):
        self.assertEqual(value("abcdefghij"), told(1, 1, "abcdefghij"))
        self.assertEqual(value("rules"), told(1, 1, "rules"))

    def test_3000_and_3001_bytes(self):
        self.assertEqual(value("a".ljust(3000)), told(1, 1, "a"))
        self.assertEqual(value("a".ljust(3001)), [-1])
        self.assertEqual(value("!" * 3000), [-4])
        self.assertEqual(value("!" * 3001), [-1])
        self.assertEqual(value("!" * 4000), [-1])


if __name__ == "__main__":
    unittest.main()
