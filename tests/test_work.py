"""Promise 6: what an expression is worth."""

import unittest

from tests.helper import WORK, answers, as_bytes, call, work, worth

GREATEST = 999999999


def alone(expression):
    """Work the expression out with the empty binding."""
    return work("a", "a", expression)


class Numbers(unittest.TestCase):
    def test_a_number_is_worth_itself(self):
        for expression, expected in [
            ("0", "0"), ("7", "7"), ("007", "7"), ("000000000", "0"), ("999999999", "999999999"), ("-7", "-7"),
            ("- 007", "-7"), ("-0", "0"), ("-999999999", "-999999999"), (" \n5\n ", "5"),
        ]:
            self.assertEqual(alone(expression), worth(expected), expression)

    def test_each_operator(self):
        for expression, expected in [
            ("2 + 3", 5), ("2 - 3", -1), ("2 * 3", 6), ("7 / 2", 3), ("7 % 2", 1), ("0 * 5", 0), ("0 / 5", 0),
            ("0 % 5", 0), ("-2 + -3", -5), ("-2 - -3", 1), ("-2 * -3", 6), ("-2 * 3", -6), ("2+3", 5), ("2--3", 5),
        ]:
            self.assertEqual(alone(expression), worth(str(expected)), expression)

    def test_division_with_numbers_below_0(self):
        for expression, expected in [
            ("7 / 2", 3), ("-7 / 2", -4), ("7 / -2", -4), ("-7 / -2", 3), ("6 / 2", 3), ("-6 / 2", -3), ("6 / -2", -3),
            ("-6 / -2", 3), ("1 / 2", 0), ("-1 / 2", -1), ("1 / -2", -1), ("-1 / -2", 0), ("0 / -2", 0),
            ("1 / 999999999", 0), ("-1 / 999999999", -1), ("-(7 / 2)", -3), ("999999999 / -1", -GREATEST),
            ("-999999999 / -1", GREATEST), ("-999999999 / 2", -500000000), ("999999998 / 999999999", 0),
            ("-999999998 / 999999999", -1), ("999999999 / 2", 499999999),
        ]:
            self.assertEqual(alone(expression), worth(str(expected)), expression)

    def test_remainders_with_numbers_below_0(self):
        for expression, expected in [
            ("7 % 2", 1), ("-7 % 2", 1), ("7 % -2", -1), ("-7 % -2", -1), ("6 % 2", 0), ("-6 % 2", 0), ("6 % -2", 0),
            ("-6 % -2", 0), ("7 % 3", 1), ("-7 % 3", 2), ("7 % -3", -2), ("-7 % -3", -1), ("0 % -3", 0),
            ("1 % 999999999", 1), ("-1 % 999999999", 999999998), ("1 % -999999999", -999999998), ("5 % 1", 0),
            ("-5 % -1", 0), ("-(7 % 3)", -1),
        ]:
            self.assertEqual(alone(expression), worth(str(expected)), expression)

    def test_a_remainder_is_in_range_though_the_multiple_below_it_is_not(self):
        self.assertEqual(alone("999999999 % -1000"), worth("-1"))
        self.assertEqual(alone("-999999999 % 1000"), worth("1"))

    def test_by_0(self):
        for expression in ["1 / 0", "1 % 0", "0 / 0", "0 % 0", "-1 / 0", "-1 % 0", "5 / (2 - 2)", "5 % (3 * 0)",
                           "5 / -0", "5 % 000", "1 + 2 / 0", "f(1 / 0)", "0 * (1 / 0)", "1 / 0 * 0", "-(1 % 0)"]:
            self.assertEqual(alone(expression), [2], expression)
        self.assertEqual(work("X", "0", "1 / X"), [2])
        self.assertEqual(work("X", "0", "1 % X"), [2])

    def test_the_range(self):
        for expression, expected in [
            ("999999998 + 1", GREATEST), ("-999999998 - 1", -GREATEST), ("333333333 * 3", GREATEST),
            ("-333333333 * 3", -GREATEST), ("0 - 999999999", -GREATEST), ("999999999 * 1", GREATEST),
            ("999999999 * -1", -GREATEST), ("-999999999 + 0", -GREATEST), ("31622 * 31622", 999950884),
            ("999999999 - 999999999", 0), ("-(-999999999)", GREATEST),
        ]:
            self.assertEqual(alone(expression), worth(str(expected)), expression)
        for expression in [
            "999999999 + 1", "-999999999 - 1", "1 + 999999999", "500000000 * 2", "-500000000 * 2", "500000000 * -2",
            "999999999 - -1", "-999999999 + -1", "999999999 * 999999999", "-999999999 * 999999999", "31623 * 31623",
            "999999999 + 999999999", "-1 - 999999999",
        ]:
            self.assertEqual(alone(expression), [2], expression)

    def test_a_step_in_between_out_of_the_range(self):
        for expression in [
            "999999999 + 1 - 1", "-999999999 - 1 + 1", "999999999 * 2 / 2", "500000000 * 2 * 0", "1 + (999999999 + 1)",
            "(999999999 + 1) * 0", "0 * (999999999 + 1)", "-(999999999 + 1)", "-(999999999 + 1) + 1",
            "999999999 + 1 + -1", "f(999999999 + 1 - 1)", "100000 * 100000 % 7", "1 - 2 + 999999999 + 2 - 5",
        ]:
            self.assertEqual(alone(expression), [2], expression)
        self.assertEqual(alone("999999999 - 1 + 1"), worth("999999999"))
        self.assertEqual(alone("999999999 + (1 - 1)"), worth("999999999"))
        self.assertEqual(alone("-1 + 999999999 + 1"), worth("999999999"))
        self.assertEqual(alone("1 + 999999999 - 1"), [2])


class Order(unittest.TestCase):
    def test_operators_go_to_the_left(self):
        for expression, expected in [
            ("10 - 4 - 3", 3), ("10 - (4 - 3)", 9), ("100 / 10 / 5", 2), ("100 / (10 / 5)", 50), ("100 % 7 % 2", 0),
            ("100 % (7 % 2 + 2)", 1), ("100 / 7 * 7", 98), ("100 * 7 / 7", 100), ("100 % 7 * 10", 20),
            ("10 - 4 + 3", 9), ("10 - (4 + 3)", 3), ("7 * 5 % 3", 2), ("7 * (5 % 3)", 14), ("20 / 3 % 4", 2),
        ]:
            self.assertEqual(alone(expression), worth(str(expected)), expression)

    def test_products_before_sums(self):
        for expression, expected in [
            ("2 + 3 * 4", 14), ("(2 + 3) * 4", 20), ("2 * 3 + 4", 10), ("2 * (3 + 4)", 14), ("20 - 7 / 2", 17),
            ("20 - 7 % 4 - 1", 16), ("1 + 2 * 3 - 4 / 2 + 5 % 3", 7), ("2 * 3 + 4 * 5", 26),
        ]:
            self.assertEqual(alone(expression), worth(str(expected)), expression)

    def test_the_sign(self):
        for expression, expected in [
            ("-2", -2), ("-(2)", -2), ("-(-2)", 2), ("-(-(-2))", -2), ("-(1 + 2)", -3), ("-1 + 2", 1), ("-2 * 3", -6),
            ("2 * -3", -6), ("2 - -3", 5), ("2 + -3", -1), ("-(2 * -3)", 6), ("-7 / 2", -4), ("-(7 / 2)", -3),
            ("-0", 0), ("-(-0)", 0), ("-(0)", 0), ("- 2 - - 3", 1),
        ]:
            self.assertEqual(alone(expression), worth(str(expected)), expression)
        self.assertEqual(work("X", "-5", "-X"), worth("5"))
        self.assertEqual(work("X", "-5", "--X"), [-6])
        self.assertEqual(work("X", "-5", "-(-X)"), worth("-5"))
        self.assertEqual(work("X", "-7", "X / 2"), worth("-4"))
        self.assertEqual(work("X", "7", "-X / 2"), worth("-4"))

    def test_brackets_that_only_group(self):
        self.assertEqual(alone("((7))"), worth("7"))
        self.assertEqual(alone("(a)"), worth("a"))
        self.assertEqual(alone("((f((1), (b))))"), worth("f(1, b)"))
        self.assertEqual(work("X", "f(1)", "((X))"), worth("f(1)"))


class Unknowns(unittest.TestCase):
    def test_what_the_binding_gives(self):
        self.assertEqual(work("X", "5", "X"), worth("5"))
        self.assertEqual(work("X", "g(1, -2)", "X"), worth("g(1, -2)"))
        self.assertEqual(work("f(X, Y)", "f(7, 3)", "X - Y"), worth("4"))
        self.assertEqual(work("f(X, Y)", "f(7, 3)", "Y - X"), worth("-4"))
        self.assertEqual(work("f(X, Y)", "f(a, g(3))", "h(Y, X, Y)"), worth("h(g(3), a, g(3))"))
        self.assertEqual(work("f(X, X)", "f(4, 4)", "X * X"), worth("16"))
        self.assertEqual(work("f(g(Ab), AB)", "f(g(1), 2)", "p(AB, Ab)"), worth("p(2, 1)"))

    def test_unknowns_without_a_value(self):
        for expression in ["Y", "f(Y)", "f(X, Y)", "f(Y, X)", "X + Y", "Y + X", "-Y", "X * 0 * Y", "Y - Y",
                           "f(g(h(1), Y))", "(Y)"]:
            self.assertEqual(work("X", "5", expression), [2], expression)
        self.assertEqual(alone("X"), [2])

    def test_a_term_where_a_number_is_asked_for(self):
        for expression in ["X + 1", "1 + X", "X - X", "X * 0", "0 * X", "X / 1", "1 / X", "X % 2", "2 % X", "-X",
                           "-(X)", "-a", "-(a)", "a + 1", "1 + a", "f(1) * 2", "2 * f(1)", "f(a + 1)", "1 + 2 * a",
                           "-f(1)", "1 + 1 + a", "a - a"]:
            self.assertEqual(work("X", "g(2)", expression), [2], expression)
            self.assertEqual(work("X", "b", expression), [2], expression)


class Terms(unittest.TestCase):
    def test_words_with_none_to_three_expressions(self):
        for expression, expected in [
            ("a", "a"), ("aB1", "aB1"), ("f(1 + 1)", "f(2)"), ("f(1 + 1,-(3))", "f(2, -3)"),
            ("f(2 * 3,g(4 - 5),b)", "f(6, g(-1), b)"), ("f(-0, 007)", "f(0, 7)"), ("f(f, f(f))", "f(f, f(f))"),
            ("rules", "rules"), ("abcdefghij", "abcdefghij"),
        ]:
            self.assertEqual(alone(expression), worth(expected), expression)

    def test_one_argument_is_worth_nothing(self):
        for expression in ["f(1 / 0)", "f(1, 1 / 0)", "f(1, 2, 1 / 0)", "f(1 / 0, 2, 3)", "f(1, a + 1, 3)",
                           "f(g(h(1 % 0)))", "f(g(1), g(X))"]:
            self.assertEqual(alone(expression), [2], expression)

    def test_20_and_21_parts(self):
        six, seven = "f(1, g(2), h(3))", "f(g(1), g(2), h(3))"
        self.assertEqual(alone(f"k({six}, {six}, {seven})"), worth(f"k({six}, {six}, {seven})"))
        self.assertEqual(alone(f"k({six}, {seven}, {seven})"), [2])
        self.assertEqual(work("X", six, f"k(X, X, {seven})"), worth(f"k({six}, {six}, {seven})"))
        self.assertEqual(work("X", seven, f"k(X, X, {six})"), [2])
        nineteen = f"k({six}, {six}, {six})"
        self.assertEqual(work("X", nineteen, "p(X)"), worth(f"p({nineteen})"))
        self.assertEqual(work("X", nineteen, "p(X, 1)"), [2])
        self.assertEqual(work("X", nineteen, "p(X, X)"), [2])
        twenty = f"k({six}, {six}, {seven})"
        self.assertEqual(work("X", twenty, "X"), worth(twenty))
        self.assertEqual(work("X", twenty, "p(X)"), [2])

    def test_expressions_of_more_than_20_parts_that_are_worth_fewer(self):
        ones = " + ".join(["1"] * 30)
        self.assertEqual(alone(f"f({ones})"), worth("f(30)"))

    def test_depth_6_and_7(self):
        self.assertEqual(alone("a(b(c(d(e(f)))))"), worth("a(b(c(d(e(f)))))"))
        self.assertEqual(alone("a(b(c(d(e(1 + 1)))))"), worth("a(b(c(d(e(2)))))"))
        self.assertEqual(alone("a(b(c(d(e(f(g))))))"), [2])
        self.assertEqual(alone("a(b(c(d(e(f(1))))))"), [2])
        self.assertEqual(alone("a(1, 2, b(c(d(e(f)))))"), worth("a(1, 2, b(c(d(e(f)))))"))
        self.assertEqual(alone("a(1, 2, b(c(d(e(f(3))))))"), [2])
        self.assertEqual(work("X", "a(b(c(d(e))))", "p(X)"), worth("p(a(b(c(d(e)))))"))
        self.assertEqual(work("X", "a(b(c(d(e(f)))))", "p(X)"), [2])
        self.assertEqual(work("p(X)", "p(a(b(c(d(e)))))", "q(p(X))"), [2])
        self.assertEqual(alone("a(b(c(d(e((((((f))))))))))"), worth("a(b(c(d(e(f)))))"))

    def test_a_term_that_is_too_great_has_no_worth_to_go_on_with(self):
        self.assertEqual(alone("f(" * 20 + "1" + ")" * 20), [2])
        self.assertEqual(alone("f(" * 6 + "1" + ")" * 6 + " + 1"), [2])


class Long(unittest.TestCase):
    def test_long_chains(self):
        self.assertEqual(alone("+".join(["1"] * 1500)), worth("1500"))
        self.assertEqual(alone("1" + "-1" * 1499), worth("-1498"))
        self.assertEqual(alone("*".join(["1"] * 1500)), worth("1"))
        self.assertEqual(alone("7" + "/1" * 1499), worth("7"))
        self.assertEqual(alone("7" + "%8" * 1499), worth("7"))
        self.assertEqual(alone("1" + "*-1" * 999), worth("-1"))
        self.assertEqual(alone("1" + "--1" * 999), worth("1000"))
        self.assertEqual(work("X", "3", "+".join(["X*X"] * 750)), worth("6750"))
        self.assertEqual(alone("1" + "+1-1" * 749), worth("1"))
        self.assertEqual(alone("2*2" + "*2/2" * 749), worth("4"))
        self.assertEqual(alone("1" + "*2" * 1000), [2])
        self.assertEqual(alone("1" + "*2" * 29), worth(str(2 ** 29)))
        self.assertEqual(alone("1" + "*2" * 30), [2])

    def test_long_chains_in_brackets(self):
        chain = "1" + "+1" * 350
        self.assertEqual(alone(f"f({chain}, -({chain}), ({chain}) * ({chain}))"), worth("f(351, -351, 123201)"))

    def test_20_and_21_brackets(self):
        self.assertEqual(alone("(" * 20 + "7" + ")" * 20), worth("7"))
        self.assertEqual(alone("-(" * 20 + "7" + ")" * 20), worth("7"))
        self.assertEqual(alone("1 + 2 * -(" * 20 + "7" + ")" * 20), worth(str(nested(20))))
        self.assertEqual(alone("(" * 21 + "7" + ")" * 21), [-6])
        self.assertEqual(alone("f(" + "(" * 20 + "7" + ")" * 21), [-6])
        self.assertEqual(alone("(7) + " * 40 + "(7)"), worth("287"))


def nested(levels):
    amount = 7
    for level in range(levels):
        amount = 1 + 2 * -amount
    return amount


class Refusals(unittest.TestCase):
    def test_1_if_they_do_not_match(self):
        for pattern, matched in [("1", "2"), ("a", "b"), ("f(X, X)", "f(1, 2)"), ("f(X)", "g(1)"), ("a", "1")]:
            self.assertEqual(work(pattern, matched, "1"), [1])
            self.assertEqual(work(pattern, matched, "1 / 0"), [1])
            self.assertEqual(work(pattern, matched, "X"), [1])

    def test_texts_that_are_no_expressions(self):
        for expression in [
            "", " ", "- - 1", "--1", "1 +", "+ 1", "* 1", "1 * * 1", "1 1", "a b", "X Y", "()", "f()", "(1", "1)",
            "f(1", "f(1,2,3,4)", "f(1,)", "1,", "1, 2", "1 = 1", "1 < 2", "X(1)", "1(2)", "(f)(1)", "1;", "!", "1 !",
            "rule", "f(keep)", "abcdefghijk", "1234567890", "X + 1234567890", "1 - - - 1", "{ 1 }", "2 ** 3",
            "1 // 2", "- ", "1 + + 1", "f(1)(2)", "1 a", "12a",
        ]:
            self.assertEqual(alone(expression), [-6], expression)
        self.assertEqual(alone([49, 200]), [-6])
        self.assertEqual(alone([9, 49]), [-6])

    def test_texts_that_are_no_patterns_or_values(self):
        for pattern in ["", "1 + 1", "(X)", "-X", "f()", "!", "rule", "X X"]:
            self.assertEqual(work(pattern, "1", "1"), [-5], pattern)
        for matched in ["", "X", "1 + 1", "f(X)", "a(b(c(d(e(f(g))))))", "!", "rule", "1 1"]:
            self.assertEqual(work("X", matched, "1"), [-4], matched)

    def test_the_order_of_refusals(self):
        long = "!" * 3001
        for texts in [(long, "1", "1"), ("X", long, "1"), ("X", "1", long), (long, "!", "!"), ("!", long, "!"),
                      ("!", "!", long), (long, long, long), ("1", "2", long), ("X", "1", " " * 3001)]:
            self.assertEqual(work(*texts), [-1])
        self.assertEqual(work("!", "!", "!"), [-5])
        self.assertEqual(work("!", "1", "!"), [-5])
        self.assertEqual(work("!", "1", "1"), [-5])
        self.assertEqual(work("X", "!", "!"), [-4])
        self.assertEqual(work("X", "!", "1"), [-4])
        self.assertEqual(work("X", "1", "!"), [-6])

    def test_refusals_come_before_1_and_2(self):
        self.assertEqual(work("1", "2", "!"), [-6])
        self.assertEqual(work("a", "b", "1 1"), [-6])
        self.assertEqual(work("1", "f(X)", "1 / 0"), [-4])
        self.assertEqual(work("1 + 1", "2", "1 / 0"), [-5])
        self.assertEqual(work("X", "1 1", "1 / 0"), [-4])
        self.assertEqual(work("a", "b".ljust(3001), "1 / 0"), [-1])
        self.assertEqual(work("a", "b", "1 / 0".ljust(3001)), [-1])
        self.assertEqual(work("a", "a", "1 / 0".ljust(3001)), [-1])

    def test_3000_bytes(self):
        self.assertEqual(work("X".ljust(3000), "5".ljust(3000), "X + 1".ljust(3000)), worth("6"))
        self.assertEqual(alone("!" * 3000), [-6])

    def test_what_the_interface_answers(self):
        self.assertEqual(answers(call(WORK, "X", "7", "X")), [2, 0] + as_bytes("7"))
        self.assertEqual(answers(call(WORK, "X", "7", "Y")), [1, 2])
        self.assertEqual(answers(call(WORK, "1", "7", "Y")), [1, 1])
        self.assertEqual(answers([5, 0, 0, 0]), [1, -5])


if __name__ == "__main__":
    unittest.main()
