"""Promises 2 and 3: a program is held, and its form is told."""

import unittest

from tests.helper import CHECK, FIT, FORM, GCD, LOAD, VALUE, ask, as_bytes, call, check, form, load


def put_form(expression):
    """Give the form of an expression that stands in a put."""
    written = form("rule r { take f(A, B, C); put g(" + expression + "); }")
    begin, end = "rule r { take f(A, B, C); put g(", "); }\n"
    if not (written.startswith(begin) and written.endswith(end)):
        raise AssertionError(written)
    return written[len(begin):-len(end)]


class Loading(unittest.TestCase):
    def test_counts(self):
        self.assertEqual(load(""), [0, 0, 0])
        self.assertEqual(load("rule a { take f; }"), [0, 1, 0])
        self.assertEqual(load("level a 1; level b 0;"), [0, 0, 2])
        self.assertEqual(load("level a 1; rule a { take f; } level b 0; rule b { keep f; fail; }"), [0, 2, 2])

    def test_a_fault_of_each_sort_is_refused(self):
        faulty = [
            "!", "abcdefghijk", "rule", "rule a { take " + "f(" * 21, "rule a { take f; } rule a { take f; }",
            "".join("rule r%d { take f; }" % number for number in range(13)), "rule a { }",
            "rule a { take f, f, f, f; }", "rule a { take f; if 1=1, 1=1, 1=1, 1=1, 1=1; }",
            "rule a { take f; put f, f, f, f, f; }", "rule a { take X; }", "rule a { take f; put 1; }",
            "rule a { take f; put f(X); }", "level a 6;", "level a 1; level a 1;",
            "".join("level w%d 1;" % number for number in range(13)),
            "rule a { take f; put f(" + "+".join(["1"] * 1000) + "); }",
        ]
        numbers = [check(text)[2] for text in faulty]
        self.assertEqual(numbers, [1, 2, 3, 4, 11, 12, 13, 14, 15, 16, 17, 18, 19, 21, 22, 23, 25])
        for text in faulty:
            self.assertEqual(load(text), [-2], text)

    def test_too_long_comes_before_faulty(self):
        self.assertEqual(load("!".ljust(3000)), [-2])
        self.assertEqual(load("!".ljust(3001)), [-1])
        self.assertEqual(load(" " * 3000), [0, 0, 0])
        self.assertEqual(load(" " * 3001), [-1])

    def test_a_refused_load_leaves_what_was_held(self):
        told = ask(
            call(LOAD, "level a 1;"), call(LOAD, "level a 6;"), call(FORM), call(LOAD, " " * 3001), call(FORM)
        )
        held = [0] + as_bytes("level a 1;\n")
        self.assertEqual(told, [[0, 0, 1], [-2], held, [-1], held])

    def test_a_refused_first_load_holds_nothing(self):
        self.assertEqual(ask(call(LOAD, "rule"), call(FORM)), [[-2], [-3]])
        self.assertEqual(ask(call(LOAD, " " * 3001), call(FORM)), [[-1], [-3]])

    def test_a_second_load_takes_the_place_of_the_first(self):
        told = ask(call(LOAD, GCD), call(LOAD, "level b 3;"), call(FORM), call(LOAD, ""), call(FORM))
        self.assertEqual(told, [[0, 2, 1], [0, 0, 1], [0] + as_bytes("level b 3;\n"), [0, 0, 0], [0]])

    def test_other_calls_hold_nothing(self):
        told = ask(call(CHECK, GCD), call(VALUE, "1"), call(FIT, "X", "1"), call(FORM))
        self.assertEqual(told[3], [-3])


class Forms(unittest.TestCase):
    def test_nothing_held(self):
        self.assertEqual(ask(call(FORM)), [[-3]])

    def test_the_empty_program(self):
        self.assertEqual(ask(call(LOAD, " \n"), call(FORM)), [[0, 0, 0], [0]])

    def test_rules_first_then_level_items(self):
        self.assertEqual(
            form("level b 2;rule z{take f;}level a 01;rule y{keep f;fail;}"),
            "rule z { take f; }\nrule y { keep f; fail; }\nlevel b 2;\nlevel a 1;\n",
        )

    def test_parts(self):
        self.assertEqual(
            form("rule a{keep f(X,Y),g;take h(-01,k(X));if X=1,X<>Y,X<Y,X<=Y;put m,n(X,2);}"),
            "rule a { keep f(X, Y), g; take h(-1, k(X)); if X = 1, X <> Y, X < Y, X <= Y; put m, n(X, 2); }\n",
        )
        self.assertEqual(form("rule a{keep f;}"), "rule a { keep f; }\n")
        self.assertEqual(form("rule a{take f;fail;}"), "rule a { take f; fail; }\n")
        self.assertEqual(form("rule a{take f;if 1=1;fail;}"), "rule a { take f; if 1 = 1; fail; }\n")
        self.assertEqual(form("rule a{take f;put g;}"), "rule a { take f; put g; }\n")

    def test_numbers(self):
        self.assertEqual(
            form("rule a { take f(007, -007, - 0); put f(000, -000, 000000010); } level a 000000005;"),
            "rule a { take f(7, -7, 0); put f(0, -0, 10); }\nlevel a 5;\n",
        )
        self.assertEqual(form("rule a { take f(999999999, -999999999); }"),
                         "rule a { take f(999999999, -999999999); }\n")

    def test_brackets_round_a_put_are_dropped(self):
        self.assertEqual(form("rule a { take f; put ((g)), (h((1))); }"), "rule a { take f; put g, h(1); }\n")

    def test_brackets_in_tests(self):
        self.assertEqual(
            form("rule a { take f(A); if (A+1)=((A)), -(A)<(A*2)*3, (A) <= -(A+1); }"),
            "rule a { take f(A); if A + 1 = A, -A < A * 2 * 3, A <= -(A + 1); }\n",
        )

    def test_brackets_kept(self):
        for expression in [
            "(A + B) * C", "(A - B) / C", "(A + B) % C", "A * (B + C)", "A / (B - C)", "A % (B + C)",
            "A * (B * C)", "A / (B / C)", "A % (B % C)", "A * (B / C)", "A + (B + C)", "A - (B - C)", "A + (B - C)",
            "A - (B + C)", "-(-A)", "-(A * B)", "-(A + B)", "-(-(-A))", "A - (B - (C - A))", "-(A / B) * C",
            "f(-(-1)) + g((A + B) * C)", "(A + B) * (A + B)", "A * -(B + C)",
        ]:
            self.assertEqual(put_form(expression), expression)

    def test_brackets_dropped(self):
        for expression, expected in [
            ("(A)", "A"), ("((1))", "1"), ("(f(A))", "f(A)"), ("-(A)", "-A"), ("-(1)", "-1"), ("-(f(A))", "-f(A)"),
            ("-(a)", "-a"), ("(-A) * B", "-A * B"), ("A * (-B)", "A * -B"), ("(-A) + B", "-A + B"),
            ("A - (-B)", "A - -B"), ("(A * B) * C", "A * B * C"), ("(A / B) % C", "A / B % C"),
            ("(A + B) + C", "A + B + C"), ("(A - B) - C", "A - B - C"), ("(A * B) + C", "A * B + C"),
            ("A + (B * C)", "A + B * C"), ("A - (B / C)", "A - B / C"), ("f((A + B), (A * B), (-A))",
                                                                       "f(A + B, A * B, -A)"),
            ("((A + B) + C) + A", "A + B + C + A"), ("((A + B)) * ((C))", "(A + B) * C"),
            ("(A + B + C) * 2", "(A + B + C) * 2"), ("-((A))", "-A"), ("-((-A))", "-(-A)"), ("(-(A))", "-A"),
            ("A*B/C%A", "A * B / C % A"), ("A+B-C", "A + B - C"), ("A--B", "A - -B"), ("A*-B", "A * -B"),
            ("- A", "-A"), ("- ( - A )", "-(-A)"), ("A * ((B * C))", "A * (B * C)"),
            ("(A * B) * (C * A)", "A * B * (C * A)"), ("(A + B) + (C + A)", "A + B + (C + A)"),
        ]:
            self.assertEqual(put_form(expression), expected, expression)

    def test_the_form_is_a_program_of_the_same_form(self):
        once = form(GCD)
        self.assertEqual(form(once), once)

    def test_a_long_chain(self):
        expression = " - ".join(["A"] * 700)
        self.assertEqual(put_form(expression), expression)
        expression = "*".join(["A"] * 700)
        self.assertEqual(put_form(expression), expression.replace("*", " * "))

    def test_the_deepest_brackets(self):
        self.assertEqual(put_form("-(" * 19 + "A" + ")" * 19), "-(" * 18 + "-A" + ")" * 18)
        self.assertEqual(put_form("(" * 19 + "A" + ")" * 19), "A")

    def test_the_longest_form(self):
        text = "rule a { take b; put ffff(" + "+".join(["1"] * 743) + "); }"
        self.assertEqual(len(form(text)), 3000)


if __name__ == "__main__":
    unittest.main()
