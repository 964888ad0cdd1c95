"""Promise 8: what a rule puts for some facts."""

import unittest

from tests.helper import FORM, GCD, LOAD, USE, answers, as_bytes, ask, call, form, on_loaded, puts, use

FAR = 1000000000000000000


class Uses(unittest.TestCase):
    def test_facts_that_fit(self):
        self.assertEqual(use(GCD, 0, "g(4),g(6)"), puts("g(2)"))
        self.assertEqual(use(GCD, 0, " g ( 004 )\n,\ng(6) "), puts("g(2)"))
        self.assertEqual(use(GCD, 0, "g(4), g(4)"), puts("g(0)"))
        self.assertEqual(use("rule a { take f(X); put g(X), h(X, X), k; }", 0, "f(3)"), puts("g(3)", "h(3, 3)", "k"))
        self.assertEqual(
            use("rule a { keep f(X), g(Y); take h(Z); put p(X, Y, Z); }", 0, "f(1), g(2), h(3)"), puts("p(1, 2, 3)")
        )
        self.assertEqual(use("rule a { keep f; put b; }", 0, "f"), puts("b"))

    def test_kept_heads_come_before_taken_ones(self):
        program = "rule a { keep f(X); take g(Y); put p(X, Y); }"
        self.assertEqual(use(program, 0, "f(1), g(2)"), puts("p(1, 2)"))
        self.assertEqual(use(program, 0, "g(2), f(1)"), [2])

    def test_puts_keep_their_order_and_may_be_the_same(self):
        self.assertEqual(use("rule a { take f; put c, b, c, a; }", 0, "f"), puts("c", "b", "c", "a"))

    def test_puts_are_worked_out(self):
        program = "rule a { take f(X, Y); put g(X / Y), ((h(X % Y, -X))), k(X * (Y + 1) - 2, m(-Y)); }"
        self.assertEqual(use(program, 0, "f(-7, 2)"), puts("g(-4)", "h(1, 7)", "k(-23, m(-2))"))

    def test_facts_that_do_not_match(self):
        for facts in ["g(4), h(6)", "h(4), g(6)", "g(4), g", "g, g(4)", "g(4), g(6, 1)", "g(4, 1), g(6)"]:
            self.assertEqual(use(GCD, 0, facts), [2], facts)
        self.assertEqual(use(GCD, 1, "g(1)"), [2])
        self.assertEqual(use(GCD, 1, "g(a)"), [2])
        self.assertEqual(use(GCD, 1, "done"), [2])

    def test_tests_that_do_not_hold(self):
        for facts in ["g(6), g(4)", "g(0), g(4)", "g(-1), g(4)", "g(a), g(4)", "g(4), g(a)", "g(a), g(b)"]:
            self.assertEqual(use(GCD, 0, facts), [2], facts)

    def test_all_tests_have_to_hold(self):
        program = "rule a { take f(A, B, C); if A = 1, B <> 1, 1 < C, C <= 3; put g; }"
        self.assertEqual(use(program, 0, "f(1, 2, 3)"), puts("g"))
        for facts in ["f(2, 2, 3)", "f(1, 1, 3)", "f(1, 2, 1)", "f(1, 2, 4)"]:
            self.assertEqual(use(program, 0, facts), [2], facts)

    def test_a_test_that_is_worth_nothing_does_not_hold(self):
        program = "rule a { take f(X); if 1 / X <> 5; put g; }"
        self.assertEqual(use(program, 0, "f(1)"), puts("g"))
        self.assertEqual(use(program, 0, "f(0)"), [2])
        self.assertEqual(use(program, 0, "f(a)"), [2])

    def test_a_put_that_is_worth_nothing(self):
        program = "rule a { take f(X); put g, h(1 / X), k; }"
        self.assertEqual(use(program, 0, "f(1)"), puts("g", "h(1)", "k"))
        self.assertEqual(use(program, 0, "f(0)"), [2])
        self.assertEqual(use(program, 0, "f(b)"), [2])
        self.assertEqual(use("rule a { take f(X); put g(X + 1); }", 0, "f(999999999)"), [2])
        self.assertEqual(use("rule a { take f(X); put g(X + 1); }", 0, "f(999999998)"), puts("g(999999999)"))

    def test_a_put_that_is_too_great(self):
        self.assertEqual(use("rule a { take f(X); put g(g(X)); }", 0, "f(a(b(c(d))))"), puts("g(g(a(b(c(d)))))"))
        self.assertEqual(use("rule a { take f(X); put g(g(X)); }", 0, "f(a(b(c(d(e)))))"), [2])
        six = "a(1, 2, b(3, 4))"
        self.assertEqual(use("rule a { take f(X); put g(X, X, X); }", 0, f"f({six})"), puts(f"g({six}, {six}, {six})"))
        seven = "a(1, 2, b(3, 4, 5))"
        self.assertEqual(use("rule a { take f(X); put g(X, X, X); }", 0, f"f({seven})"), [2])

    def test_a_rule_that_fails(self):
        program = "rule a { keep f(X); take g(Y); if X < Y; fail; }"
        self.assertEqual(use(program, 0, "f(1), g(2)"), [1])
        self.assertEqual(use(program, 0, "f(2), g(1)"), [2])
        self.assertEqual(use(program, 0, "g(1), f(2)"), [2])
        self.assertEqual(use(program, 0, "f(a), g(2)"), [2])
        self.assertEqual(use("rule a { keep f; fail; }", 0, "f"), [1])
        self.assertEqual(use("rule a { keep f; fail; }", 0, "g"), [2])

    def test_a_rule_without_puts(self):
        self.assertEqual(use("rule a { take f(X); }", 0, "f(1)"), puts())
        self.assertEqual(use("rule a { take f(X); }", 0, "g(1)"), [2])
        self.assertEqual(use("rule a { take f(X); if X = 1; }", 0, "f(1)"), puts())
        self.assertEqual(use("rule a { take f(X); if X = 1; }", 0, "f(2)"), [2])

    def test_unknowns_that_heads_share(self):
        program = "rule a { keep f(X, Y); take g(Y, Z), h(Z, X); put k(X, Y, Z); }"
        self.assertEqual(use(program, 0, "f(1, b), g(b, m(3)), h(m(3), 1)"), puts("k(1, b, m(3))"))
        for facts in ["f(1, b), g(c, m(3)), h(m(3), 1)", "f(1, b), g(b, m(3)), h(m(4), 1)",
                      "f(1, b), g(b, m(3)), h(m(3), 2)", "f(1, b), g(b, m(3)), h(m, 1)"]:
            self.assertEqual(use(program, 0, facts), [2], facts)
        self.assertEqual(use("rule a { take f(X), f(X); }", 0, "f(1), f(1)"), puts())
        self.assertEqual(use("rule a { take f(X), f(X); }", 0, "f(1), f(2)"), [2])

    def test_heads_that_are_greater_than_values(self):
        program = "rule a { take f(" + "f(" * 10 + "X" + ")" * 11 + "; }"
        self.assertEqual(use(program, 0, "f(f(f(1)))"), [2])

    def test_each_rule_by_its_number(self):
        names = ["r" + str(number) for number in range(12)]
        program = "".join("rule " + name + " { take f; put " + name + "; }" for name in names)
        told = on_loaded(program, *[call(USE, number, "f") for number in range(12)])
        self.assertEqual(told, [puts(name) for name in names])

    def test_level_items_are_not_numbered(self):
        program = "level a 1; rule a { take f; put b; } level b 1; rule c { take f; put d; }"
        told = on_loaded(program, *[call(USE, number, "f") for number in range(3)])
        self.assertEqual(told, [puts("b"), puts("d"), [-8]])

    def test_a_use_changes_nothing(self):
        once = call(USE, 0, "g(4), g(6)")
        told = on_loaded(GCD, once, call(USE, 0, "g(6), g(4)"), once, call(USE, 5, ""), call(FORM), once)
        self.assertEqual(told[0], puts("g(2)"))
        self.assertEqual(told[2], puts("g(2)"))
        self.assertEqual(told[5], puts("g(2)"))
        self.assertEqual(bytes(told[4][1:]).decode("ascii"), form(GCD))

    def test_the_program_that_was_loaded_last(self):
        one, two = "rule a { take f; put b; }", "rule a { take f; put c; }"
        told = ask(call(LOAD, one), call(USE, 0, "f"), call(LOAD, two), call(USE, 0, "f"), call(LOAD, "!"),
                   call(USE, 0, "f"), call(LOAD, ""), call(USE, 0, "f"))
        self.assertEqual(told[1::2], [puts("b"), puts("c"), puts("c"), [-8]])

    def test_the_longest_texts(self):
        self.assertEqual(use("rule a { take f, f; put b; }", 0, "f,f".ljust(3000)), puts("b"))
        chain = "+".join(["X"] * 600)
        self.assertEqual(use("rule a { take f(X); put g(" + chain + "); }", 0, "f(2)"), puts("g(1200)"))

    def test_long_puts(self):
        inner = "abcdefghij(" + ", ".join(["abcdefghij"] * 3) + ")"
        put = "abcdefghij(" + ", ".join([inner] * 3) + ")"
        self.assertEqual(use("rule a { take f; put " + ", ".join([put] * 4) + "; }", 0, "f"), puts(*[put] * 4))


class Refusals(unittest.TestCase):
    def test_nothing_held(self):
        for number, facts in [(0, "f"), (-1, "f"), (FAR, "!" * 3001), (0, "!" * 3001), (0, "!"), (0, "")]:
            self.assertEqual(ask(call(USE, number, facts)), [[-3]])
        self.assertEqual(ask(call(LOAD, "rule a { }"), call(USE, 0, "f")), [[-2], [-3]])

    def test_no_rule_of_this_number(self):
        for number in [-1, -2, 2, 3, 12, FAR, -FAR]:
            self.assertEqual(use(GCD, number, "g(0)"), [-8], number)
            self.assertEqual(use(GCD, number, "g(0)".ljust(3001)), [-8], number)
            self.assertEqual(use(GCD, number, "!"), [-8], number)
            self.assertEqual(use(GCD, number, ""), [-8], number)
        for number in [0, 1, -1, FAR, -FAR]:
            self.assertEqual(use("", number, "f"), [-8], number)
            self.assertEqual(use("level f 1;", number, "f"), [-8], number)

    def test_too_long(self):
        self.assertEqual(use(GCD, 1, "g(0)".ljust(3001)), [-1])
        self.assertEqual(use(GCD, 1, "!" * 3001), [-1])
        self.assertEqual(use(GCD, 1, "!" * 4000), [-1])
        self.assertEqual(use(GCD, 1, "g(0)".ljust(3000)), puts())
        self.assertEqual(use(GCD, 1, "!" * 3000), [-9])
        self.assertEqual(use(GCD, 1, ",".join(["g"] * 1501)), [-1])

    def test_no_facts(self):
        for facts in [
            "", " ", "\n", "!", "g(0)!", "g(0) g(0)", "g(0);", "g(0),", ",g(0)", "g(0),,g(0)", ",", "g(0))", "(g(0))",
            "g(0", "g()", "X", "g(X)", "g(0), X", "g(0), g(Y)", "0", "-1", "7", "g(0), 7", "7, g(0)", "g(0), -1",
            "rule", "g(keep)", "abcdefghijk", "g(1234567890)", "g(1 + 1)", "g(0) + 1", "g(1,2,3,4)", "- g", "g(- - 1)",
            "a(b(c(d(e(f(g))))))", "g(0), a(b(c(d(e(f(1))))))", "f(" * 21 + "1" + ")" * 21, "g(0) = g(0)", "g(0){",
        ]:
            self.assertEqual(use(GCD, 1, facts), [-9], facts)
        six, seven = "f(1, g(2), h(3))", "f(g(1), g(2), h(3))"
        self.assertEqual(use(GCD, 1, f"k({six}, {seven}, {seven})"), [-9])
        self.assertEqual(use(GCD, 1, f"k({six}, {six}, {seven})"), [2])
        self.assertEqual(use(GCD, 1, "a(b(c(d(e(f)))))"), [2])
        self.assertEqual(use(GCD, 1, [103, 200]), [-9])
        self.assertEqual(use(GCD, 1, [103, 9]), [-9])

    def test_a_number_among_the_facts_is_refused_whatever_the_heads(self):
        self.assertEqual(use("rule a { take f(X), f(Y); }", 0, "f(1), 1"), [-9])
        self.assertEqual(use("rule a { take f(X), f(Y); }", 0, "1, f(1)"), [-9])

    def test_not_as_many_facts_as_heads(self):
        self.assertEqual(use(GCD, 0, "g(4)"), [-10])
        self.assertEqual(use(GCD, 0, "g(4), g(6), g(8)"), [-10])
        self.assertEqual(use(GCD, 1, "g(0), g(0)"), [-10])
        self.assertEqual(use(GCD, 1, "a, b"), [-10])
        self.assertEqual(use(GCD, 1, ",".join(["g"] * 1500)), [-10])
        self.assertEqual(use("rule a { keep f; fail; }", 0, "f, f"), [-10])
        self.assertEqual(use("rule a { keep f; take g, h; }", 0, "f"), [-10])
        self.assertEqual(use("rule a { keep f; take g, h; }", 0, "g, h"), [-10])

    def test_no_facts_comes_before_their_count(self):
        for facts in ["g(4), g(6), 8", "g(4), g(6), X", "g(4), g(6),", "7", "X", "g(4), g(6), a(b(c(d(e(f(g))))))"]:
            self.assertEqual(use(GCD, 0, facts), [-9], facts)

    def test_what_the_interface_answers(self):
        begin = call(LOAD, GCD)
        self.assertEqual(answers(begin + [7, 1, 4] + as_bytes("g(0)"))[4:], [2, 0, 0])
        self.assertEqual(answers(begin + [7, 0, 0])[4:], [1, -9])
        self.assertEqual(answers(begin + [7, -FAR, 0])[4:], [1, -8])
        self.assertEqual(answers([7, 0, 0]), [1, -3])


if __name__ == "__main__":
    unittest.main()
