"""Promise 1: all faults of a text, in order."""

import unittest

from tests.helper import check, faults


def in_rule(parts):
    """Give a rule with these parts, and the place where they begin."""
    return "rule r { " + parts + " }"


OFFSET = len("rule r { ")


def nested(how_many, inner="a"):
    """Give a pattern with so many ( open at once."""
    return "f(" * how_many + inner + ")" * how_many


class Cutting(unittest.TestCase):
    """Faults 1 and 2, and what a token is."""

    def test_bytes_that_begin_no_token(self):
        for byte in list(range(0, 10)) + list(range(11, 32)) + list(range(127, 256)):
            self.assertEqual(check([10, 32, byte]), faults((2, 1)), byte)
        for sign in "!\"#$&'.:>?@[\\]^_`|~":
            self.assertEqual(check(" " + sign), faults((1, 1)), sign)

    def test_signs_are_tokens(self):
        for sign in ["(", ")", "{", "}", ",", ";", "+", "-", "*", "/", "%", "=", "<", "<=", "<>"]:
            self.assertEqual(check(" " + sign + "!"), faults((1 + len(sign), 1)), sign)
            self.assertEqual(check(" " + sign), faults((1, 3)), sign)

    def test_greater_is_a_sign_only_behind_less(self):
        test = in_rule("take f(X); if X <> 1;")
        self.assertEqual(check(test), faults())
        self.assertEqual(check(test.replace("<>", "< >")), faults((test.index("<>") + 2, 1)))
        self.assertEqual(check(test.replace("<>", ">")), faults((test.index("<>"), 1)))
        self.assertEqual(check(test.replace("<>", "=>")), faults((test.index("<>") + 1, 1)))
        self.assertEqual(check(test.replace("<>", "<<>")), faults((test.index("<>") + 1, 3)))

    def test_less_or_same_is_one_token(self):
        test = in_rule("take f(X); if X <= 1;")
        self.assertEqual(check(test), faults())
        self.assertEqual(check(test.replace("<=", "< =")), faults((test.index("<=") + 2, 3)))
        self.assertEqual(check(test.replace("<=", "<\n=")), faults((test.index("<=") + 2, 3)))
        self.assertEqual(check(test.replace("<=", "<==")), faults((test.index("<=") + 2, 3)))
        self.assertEqual(check(test.replace("<=", "=<")), faults((test.index("<=") + 1, 3)))

    def test_less_at_the_very_end(self):
        self.assertEqual(check("rule a { take f; if 1 <"), faults((23, 3)))

    def test_length_of_words(self):
        self.assertEqual(check("rule abcdefghi1 { take f; }"), faults())
        self.assertEqual(check("rule abcdefghij1 { take f; }"), faults((5, 2)))
        self.assertEqual(check("level aBCDEFGHI9 1;"), faults())
        self.assertEqual(check("level aBCDEFGHIJ9 1;"), faults((6, 2)))

    def test_length_of_unknowns(self):
        self.assertEqual(check(in_rule("take f(Abcdefghi1);")), faults())
        self.assertEqual(check(in_rule("take f(Abcdefghij1);")), faults((OFFSET + 7, 2)))

    def test_length_of_numbers(self):
        self.assertEqual(check(in_rule("take f(999999999);")), faults())
        self.assertEqual(check(in_rule("take f(1000000000);")), faults((OFFSET + 7, 2)))
        self.assertEqual(check(in_rule("take f(000000001);")), faults())
        self.assertEqual(check(in_rule("take f(0000000001);")), faults((OFFSET + 7, 2)))
        self.assertEqual(check("level a 0000000000;"), faults((8, 2)))

    def test_the_first_of_these_is_the_only_one(self):
        self.assertEqual(check("rule } abcdefghijk ! 1234567890"), faults((7, 2)))
        self.assertEqual(check("rule } ! abcdefghijk"), faults((7, 1)))
        self.assertEqual(check("abcdefghijk!"), faults((0, 2)))
        self.assertEqual(check("rule a { } rule a { } #"), faults((22, 1)))

    def test_letters_behind_digits_begin_a_token(self):
        self.assertEqual(check("level a 5;level b 4;"), faults())
        self.assertEqual(check("level a 12b;"), faults((8 + 2, 3)))
        self.assertEqual(check("level a 123456789abcdefghij;"), faults((17, 3)))

    def test_small_and_great_first_letters(self):
        self.assertEqual(check("rule aB1 { take f(Ab1); }"), faults())
        self.assertEqual(check("rule Ab1 { take f; }"), faults((5, 3)))
        self.assertEqual(check("rule 1a { take f; }"), faults((5, 3)))

    def test_blanks_part_tokens_and_mean_nothing_else(self):
        self.assertEqual(check("rule\na\n{take\nf ( X ) ;\n}\n\n"), faults())
        self.assertEqual(check("rulea{take f;}"), faults((0, 3)))
        self.assertEqual(check("rule a{takef;}"), faults((7, 3)))
        self.assertEqual(check("rule a\t{take f;}"), faults((6, 1)))
        self.assertEqual(check("rule a\r{take f;}"), faults((6, 1)))


class Order(unittest.TestCase):
    """Faults 3 and 4."""

    def test_the_empty_text_and_blanks(self):
        self.assertEqual(check(""), faults())
        self.assertEqual(check(" \n "), faults())

    def test_the_end_where_something_has_to_follow(self):
        tokens = (
            "rule a { keep f ( - 1 , X ) , g ; take h ; if X * ( 2 ) < - X ; put k ( X ) ; } level a 1 ;"
        ).split()
        for count in range(1, len(tokens)):
            text = " ".join(tokens[:count]) + " \n"
            expected = [] if tokens[count - 1] == "}" else [(len(text), 3)]
            self.assertEqual(check(text), faults(*expected), text)
        self.assertEqual(check("rule"), faults((4, 3)))
        self.assertEqual(check("level a 1"), faults((9, 3)))

    def test_what_a_program_begins_with(self):
        for text in ["a", "X", "1", "keep", "take f;", "{", ";", "( rule"]:
            self.assertEqual(check(" " + text), faults((1, 3)), text)
        self.assertEqual(check("rule a { take f; } ;"), faults((19, 3)))

    def test_reserved_words_are_no_words(self):
        for word in ["rule", "keep", "take", "if", "put", "fail", "level"]:
            self.assertEqual(check("rule " + word + " { take f; }"), faults((5, 3)), word)
            self.assertEqual(check("level " + word + " 1;"), faults((6, 3)), word)
            self.assertEqual(check(in_rule("take " + word + ";")), faults((OFFSET + 5, 3)), word)
            self.assertEqual(check(in_rule("take f(" + word + ");")), faults((OFFSET + 7, 3)), word)
            self.assertEqual(check(in_rule("take f; put " + word + ";")), faults((OFFSET + 12, 3)), word)
        for word in ["rules", "ifs", "kee", "puT", "fail1", "levels"]:
            self.assertEqual(check("rule " + word + " { take " + word + "; }"), faults(), word)

    def test_parts_in_their_order(self):
        self.assertEqual(check(in_rule("keep a; take b; if 1 = 1; put c;")), faults())
        self.assertEqual(check(in_rule("keep a; take b; if 1 = 1; fail;")), faults())
        self.assertEqual(check(in_rule("keep a;")), faults())
        self.assertEqual(check(in_rule("take a; keep b;")), faults((OFFSET + 8, 3)))
        self.assertEqual(check(in_rule("keep a; keep b;")), faults((OFFSET + 8, 3)))
        self.assertEqual(check(in_rule("take a; put b; if 1 = 1;")), faults((OFFSET + 15, 3)))
        self.assertEqual(check(in_rule("take a; put b; put c;")), faults((OFFSET + 15, 3)))
        self.assertEqual(check(in_rule("take a; put b; fail;")), faults((OFFSET + 15, 3)))
        self.assertEqual(check(in_rule("take a; fail; put b;")), faults((OFFSET + 14, 3)))
        self.assertEqual(check(in_rule("take a; fail; fail;")), faults((OFFSET + 14, 3)))
        self.assertEqual(check(in_rule("take a; fail a;")), faults((OFFSET + 13, 3)))

    def test_parts_are_not_empty(self):
        for word in ["keep", "take", "if", "put"]:
            self.assertEqual(check(in_rule(word + " ;")), faults((OFFSET + len(word) + 1, 3)), word)
        self.assertEqual(check(in_rule("take a, ;")), faults((OFFSET + 8, 3)))
        self.assertEqual(check(in_rule("take a b;")), faults((OFFSET + 7, 3)))
        self.assertEqual(check(in_rule("take a")), faults((OFFSET + 7, 3)))

    def test_level_items(self):
        self.assertEqual(check("level a 0; level b 5;"), faults())
        self.assertEqual(check("level a;"), faults((7, 3)))
        self.assertEqual(check("level a -1;"), faults((8, 3)))
        self.assertEqual(check("level a b;"), faults((8, 3)))
        self.assertEqual(check("level A 1;"), faults((6, 3)))
        self.assertEqual(check("level a 1 2;"), faults((10, 3)))
        self.assertEqual(check("level a(b) 1;"), faults((7, 3)))

    def test_patterns(self):
        for pattern in ["f(1)", "f(-1)", "f(- 1, -0)", "f(X, Y, g(h(X)))", "f(a)"]:
            self.assertEqual(check(in_rule("take " + pattern + ";")), faults(), pattern)
        for pattern, place in [
            ("f()", 2), ("f(1,)", 4), ("f(,1)", 2), ("f(1 2)", 4), ("f(- X)", 4), ("f(- - 1)", 4), ("f(-a)", 3),
            ("f(1 + 2)", 4), ("f((1))", 2), ("(f)", 0), ("X(1)", 1), ("1(1)", 1), ("f(1)(2)", 4), ("f(1;", 3),
            ("f(g(1, 2, 3, 4))", 11), ("f(1, 2, 3 4)", 10), ("f(+1)", 2), ("f(1 = 1)", 4), ("f(1, 2, 3;", 9),
        ]:
            self.assertEqual(check(in_rule("take " + pattern + ";")), faults((OFFSET + 5 + place, 3)), pattern)

    def test_expressions(self):
        for expression in [
            "1", "-1", "(1)", "((1))", "-(-1)", "- (- 1)", "1 - -1", "1 + -1", "1 * -1", "a", "-a", "f(1, 2, 3)",
            "f(1 + 2, -X, (X))", "1 % 2 / 3 * 4 + 5 - 6", "f(1, 2, 3 + 4)", "(f(X)) + g", "-(X)", "1 - (2)",
        ]:
            self.assertEqual(check(in_rule("take f(X); put f(" + expression + ");")), faults(), expression)
        for expression, place in [
            ("- - 1", 2), ("1 - - - 1", 6), ("+ 1", 0), ("1 +", 3), ("1 + * 2", 4), ("* 1", 0), ("()", 1), ("(1", 2),
            ("1)", 1), ("1 2", 2), ("X 1", 2), ("X(1)", 1), ("(1)(2)", 3), ("f(1)(2)", 4), ("f()", 2), ("f(1,)", 4),
            ("f(1, 2, 3, 4)", 9), ("f(1, 2, 3 + 4, 5)", 13), ("1 = 1", 2), ("(1 = 1)", 3), ("(1, 2)", 2),
            ("-", 1), ("f(1 < 2)", 4), ("1 <> 2", 2), ("take", 0), ("f(1 2)", 4), ("{", 0),
        ]:
            text = in_rule("take f(X); put " + expression + ";")
            self.assertEqual(check(text), faults((OFFSET + 15 + place, 3)), expression)

    def test_tests(self):
        for test in ["1 = 1", "a <> f(X)", "X + 1 < X * 2", "-X <= -(1)", "(1) = (1)", "1 <-1", "1=-1"]:
            self.assertEqual(check(in_rule("take f(X); if " + test + ";")), faults(), test)
        for test, place in [
            ("1", 1), ("1 =", 3), ("= 1", 0), ("1 = 1 = 1", 6), ("1 < 1 < 1", 6), ("(1 = 1)", 3), ("1 1", 2),
            ("1 = = 1", 4), ("1 < = 1", 4), ("1, 1 = 1", 1), ("1 + = 1", 4), ("1 <> - - 1", 7),
        ]:
            text = in_rule("take f(X); if " + test + ";")
            self.assertEqual(check(text), faults((OFFSET + 14 + place, 3)), test)

    def test_the_first_wrong_token_is_the_only_fault(self):
        self.assertEqual(check("rule a { } rule a { take X; ) ( }"), faults((28, 3)))
        self.assertEqual(check("level a 9; level a 9; rule"), faults((26, 3)))

    def test_twenty_brackets_in_a_pattern(self):
        self.assertEqual(check(in_rule("take " + nested(20) + ";")), faults())
        self.assertEqual(check(in_rule("take " + nested(21) + ";")), faults((OFFSET + 5 + 41, 4)))
        self.assertEqual(check(in_rule("keep " + nested(19, "g(1), g(2), g(3)") + ";")), faults())
        self.assertEqual(check(in_rule("keep " + nested(19, "g(1), g(h(2))") + ";")), faults((OFFSET + 5 + 38 + 9, 4)))

    def test_twenty_brackets_in_an_expression(self):
        self.assertEqual(check(in_rule("take f; put " + nested(20, "1 + 1") + ";")), faults())
        self.assertEqual(check(in_rule("take f; put " + nested(21, "1 + 1") + ";")), faults((OFFSET + 12 + 41, 4)))
        deep = "(" * 20 + "1" + ")" * 20
        self.assertEqual(check(in_rule("take f; if " + deep + " = " + deep + ";")), faults())
        self.assertEqual(check(in_rule("take f; if 1 = (" + deep + ");")), faults((OFFSET + 15 + 20, 4)))
        mixed = "-(f(" * 10 + "1" + "))" * 10
        self.assertEqual(check(in_rule("take f; if 1 = " + mixed + ";")), faults())
        self.assertEqual(check(in_rule("take f; if 1 = " + mixed.replace("1", "(1)") + ";")), faults((OFFSET + 55, 4)))

    def test_closed_brackets_are_not_counted(self):
        many = "(1) + " * 30 + "(1)"
        self.assertEqual(check(in_rule("take f; if 1 = " + many + ";")), faults())
        self.assertEqual(check(in_rule("take f; put " + nested(19, "(1) + (1) + g(1)") + ";")), faults())
        self.assertEqual(check(in_rule("take " + nested(20) + ", " + nested(20) + ";")), faults())

    def test_brackets_too_deep_or_a_wrong_token_whichever_comes_first(self):
        open_ones = "take " + "f(" * 20
        self.assertEqual(check(in_rule(open_ones + "f(! ;")), faults((OFFSET + 5 + 42, 1)))
        self.assertEqual(check(in_rule(open_ones + "f(;")), faults((OFFSET + 5 + 41, 4)))
        self.assertEqual(check(in_rule(open_ones + "; f(")), faults((OFFSET + 5 + 40, 3)))
        self.assertEqual(check(in_rule(open_ones + "X(")), faults((OFFSET + 5 + 41, 3)))
        self.assertEqual(check(in_rule(open_ones + "(")), faults((OFFSET + 5 + 40, 3)))
        self.assertEqual(check("rule a { take f; put " + "(" * 2900), faults((21 + 20, 4)))


class Meaning(unittest.TestCase):
    """Faults 11 to 25."""

    def test_11_a_name_that_an_earlier_rule_has(self):
        self.assertEqual(check("rule a { take f; } rule b { take f; } rule a { take f; }"), faults((43, 11)))
        self.assertEqual(check("rule a { take f; } " * 3), faults((24, 11), (43, 11)))
        self.assertEqual(check("rule a { take a; put a; } level a 1; rule aa { take a; }"), faults())

    def test_12_rules_from_the_13th_on(self):
        rules = ["rule r%02d { take f; } " % number for number in range(14)]
        self.assertEqual(check("".join(rules[:12])), faults())
        self.assertEqual(check("".join(rules[:13])), faults((12 * 21 + 5, 12)))
        self.assertEqual(check("".join(rules)), faults((12 * 21 + 5, 12), (13 * 21 + 5, 12)))
        self.assertEqual(check("".join(rules[:12] + rules[:1])), faults((12 * 21 + 5, 11), (12 * 21 + 5, 12)))

    def test_13_and_14_how_many_heads(self):
        self.assertEqual(check("rule a { if 1 = 1; put b; }"), faults((5, 13)))
        self.assertEqual(check("rule a { fail; }"), faults((5, 13)))
        self.assertEqual(check(in_rule("keep a, b; take c;")), faults())
        self.assertEqual(check(in_rule("keep a, b, c;")), faults())
        self.assertEqual(check(in_rule("keep a, b; take c, d;")), faults((5, 14)))
        self.assertEqual(check(in_rule("take a, b, c, d, e;")), faults((5, 14)))

    def test_15_how_many_tests(self):
        self.assertEqual(check(in_rule("take a; if " + ", ".join(["1 = 1"] * 4) + ";")), faults())
        self.assertEqual(check(in_rule("take a; if " + ", ".join(["1 = 1"] * 5) + ";")), faults((5, 15)))

    def test_16_how_many_puts(self):
        self.assertEqual(check(in_rule("take a; put b, b, b, b;")), faults())
        self.assertEqual(check(in_rule("take a; put b, b, b, b, b;")), faults((5, 16)))

    def test_17_heads_that_are_no_terms(self):
        self.assertEqual(check(in_rule("keep 1; take X;")), faults((OFFSET + 5, 17), (OFFSET + 13, 17)))
        self.assertEqual(check(in_rule("keep - 1, f, 007;")), faults((OFFSET + 5, 17), (OFFSET + 13, 17)))
        self.assertEqual(check(in_rule("keep f(X), f(1), f(-1);")), faults())

    def test_18_puts_that_are_no_terms(self):
        for put in ["a", "(a)", "((a))", "f(X)", "(f(X + 1))", "((f((X))))"]:
            self.assertEqual(check(in_rule("take g(X); put " + put + ";")), faults(), put)
        for put in ["1", "-1", "X", "(X)", "-a", "-(a)", "a + b", "(a) + b", "f(X) * 2", "(1)", "((1))", "(-f(X))"]:
            self.assertEqual(check(in_rule("take g(X); put " + put + ";")), faults((OFFSET + 15, 18)), put)
        self.assertEqual(check(in_rule("take g(X); put a, 1, b;")), faults((OFFSET + 18, 18)))

    def test_19_unknowns_that_stand_in_no_head(self):
        self.assertEqual(check(in_rule("keep a(X); take b(f(Y)); if X = Y; put c(X, Y);")), faults())
        text = in_rule("keep a(X); if Y = f(-X, -(Y * 2), Y), Z < X; put c(W, X), Z1;")
        places = [place for place in range(OFFSET + 11, len(text)) if text[place] in "YZW"]
        self.assertEqual(check(text), faults(
            *[(place, 19) for place in places[:-1]], (places[-1], 18), (places[-1], 19)
        ))

    def test_19_in_every_operand(self):
        for expression in ["X + 1 - Y", "1 * X % Y", "1 + X * Y", "-Y", "-(1 - Y)", "(X + Y) * X", "1 / 2 / Y / 3",
                           "g(1, X, h(Y))", "(((Y)))"]:
            text = in_rule("take f(X); if 1 = " + expression + "; put f(1, " + expression + ");")
            self.assertEqual(check(text), faults((text.index("Y"), 19), (text.rindex("Y"), 19)), expression)
            text = in_rule("take f(X); if " + expression + " = 1;")
            self.assertEqual(check(text), faults((text.index("Y"), 19)), expression)

    def test_19_heads_of_other_rules_do_not_count(self):
        text = "rule a { take f(X); } rule b { take f(Y); put f(X); }"
        self.assertEqual(check(text), faults((text.rindex("X"), 19)))

    def test_19_names_are_the_same_only_as_a_whole(self):
        self.assertEqual(check(in_rule("take f(Xa); put f(X);")), faults((OFFSET + 18, 19)))
        self.assertEqual(check(in_rule("take f(Xa); put f(XA);")), faults((OFFSET + 18, 19)))
        self.assertEqual(check(in_rule("take f(Xa); put f(Xa1);")), faults((OFFSET + 18, 19)))

    def test_21_levels_above_5(self):
        self.assertEqual(check("level a 5; level b 000000005; level c 00;"), faults())
        self.assertEqual(check("level a 6; level b 000000010;"), faults((8, 21), (19, 21)))
        self.assertEqual(check("level a 999999999;"), faults((8, 21)))

    def test_22_a_word_that_an_earlier_level_item_has(self):
        self.assertEqual(check("level a 1; level b 2; level a 1; level a 6;"), faults((28, 22), (39, 22), (41, 21)))

    def test_23_level_items_from_the_13th_on(self):
        items = ["level w%02d 1; " % number for number in range(14)]
        self.assertEqual(check("".join(items[:12])), faults())
        self.assertEqual(check("".join(items)), faults((12 * 13 + 6, 23), (13 * 13 + 6, 23)))
        self.assertEqual(check("".join(items[:12] + items[:1])), faults((12 * 13 + 6, 22), (12 * 13 + 6, 23)))

    def test_several_faults_in_their_order(self):
        text = (
            "level a 9; rule r { if A = 1, 1 = 1, 1 = 1, 1 = 1, B = C; put D, e, 1, f, g; } "
            "level a 7; rule r { keep X, 1, f, -2; } rule q { take f(X); put X; }"
        )
        self.assertEqual(check(text), faults(
            (8, 21), (16, 13), (16, 15), (16, 16), (text.index("A"), 19), (text.index("B"), 19),
            (text.index("C"), 19), (text.index("D"), 18), (text.index("D"), 19), (text.index("1, f, g"), 18),
            (85, 22), (87, 21), (95, 11), (95, 14), (text.index("X"), 17), (text.index("1, f, -"), 17),
            (text.index("-2"), 17), (text.rindex("X"), 18),
        ))

    def test_all_faults_of_one_name_together(self):
        text = "".join("rule r%02d { take f; } " % number for number in range(12))
        place = len(text) + 5
        text += "rule r00 { keep a, a; take a, a; if 1=1,1=1,1=1,1=1,1=1; put a,a,a,a,a; }"
        self.assertEqual(check(text), faults((place, 11), (place, 12), (place, 14), (place, 15), (place, 16)))


def sum_program(how_many, word="f"):
    """Give a program's text with a sum of so many ones, and how many bytes its form has."""
    begin, end = "rule a { take b; put " + word + "(", "); }"
    return begin + "+".join(["1"] * how_many) + end, len(begin) + 4 * how_many - 3 + len(end) + 1


class Lengths(unittest.TestCase):
    """The refusal -1, fault 25, and texts as long as they may be."""

    def test_3000_and_3001_bytes(self):
        self.assertEqual(check(" " * 3000), [0])
        self.assertEqual(check(" " * 3001), [-1])
        self.assertEqual(check("!" * 3000), faults((0, 1)))
        self.assertEqual(check("!" * 3001), [-1])
        self.assertEqual(check("rule a { take f; }".ljust(3000)), [0])
        self.assertEqual(check("rule a { take f; }".ljust(4000)), [-1])
        self.assertEqual(check("rule a {".ljust(3000)), faults((3000, 3)))

    def test_25_a_form_of_3000_and_one_of_3001_bytes(self):
        for word in ["f", "ff", "fff", "ffff"]:
            for how_many in range(735, 755):
                text, length = sum_program(how_many, word)
                expected = [] if length <= 3000 else [(len(text), 25)]
                self.assertEqual(check(text), faults(*expected), (word, how_many))
        lengths = [sum_program(how_many, "f" * size)[1] for size in range(1, 5) for how_many in range(735, 755)]
        self.assertIn(3000, lengths)
        self.assertIn(3001, lengths)

    def test_25_place_counts_blanks_at_the_end(self):
        text = sum_program(900)[0] + "  \n"
        self.assertEqual(check(text), faults((len(text), 25)))

    def test_25_comes_only_alone(self):
        text = sum_program(900)[0] + "level b 6;"
        self.assertEqual(check(text), faults((len(text) - 2, 21)))

    def test_25_the_form_is_what_counts_not_the_text(self):
        text = "level a 000000001;\n" * 12
        self.assertEqual(check(sum_program(700)[0] + " " * 1000 + "level a 000000001;"), faults())
        self.assertEqual(len(check(text)), 1 + 2 * 11)

    def test_long_chains_and_long_lists(self):
        text = "rule a { take f(X); put g(" + "-X*" * 900 + "X); }"
        self.assertEqual(check(text), faults((len(text), 25)))
        puts = "rule a { take f; put " + ",".join(["X"] * 1480) + ";}"
        told = check(puts)
        self.assertEqual(told[:3], [0, 5, 16])
        self.assertEqual(told[3:7], [21, 18, 21, 19])
        self.assertEqual(len(told), 3 + 4 * 1480)
        self.assertLessEqual(len(told), 6100)

    def test_many_rules(self):
        rules = "rule a{}" * 375
        told = check(rules)
        self.assertEqual(len(rules), 3000)
        self.assertEqual(len(told), 1 + 2 * (375 + 374 + 363))


if __name__ == "__main__":
    unittest.main()
