"""Reading texts, from the left, by one token ahead."""

from factrulesdesk.refusals import NoExpression, NoFacts, NoPattern, NoTest, NoValue, NoWord, TextFault
from factrulesdesk.shapes import (
    LevelItem, Number, Placed, Product, Program, Rule, Signed, Sum, Term, Test, Unknown,
    is_fact, is_value,
)
from factrulesdesk.tokens import cut

WRONG_TOKEN = 3
TOO_MANY_UNCLOSED = 4

MOST_UNCLOSED = 20
MOST_ARGUMENTS = 3

SUM_SIGNS = ("+", "-")
PRODUCT_SIGNS = ("*", "/", "modulo")
TEST_SIGNS = ("=", "<>", "<", "<=")


class Reader:
    """A text's tokens, the one that is read next, and how many ( are not closed yet."""

    def __init__(self, tokens):
        self.tokens = tokens
        self.position = 0
        self.unclosed = 0

    def look(self):
        return self.tokens[self.position]

    def sees(self, kind):
        return self.look().kind == kind

    def sees_one_of(self, kinds):
        return self.look().kind in kinds

    def advance(self):
        token = self.look()
        self.position += 1
        return token

    def expect(self, kind):
        return self.expect_one_of((kind,))

    def expect_one_of(self, kinds):
        if not self.sees_one_of(kinds):
            raise TextFault(self.look().place, WRONG_TOKEN)
        return self.advance()

    def enter_brackets(self):
        bracket = self.expect("(")
        if self.unclosed == MOST_UNCLOSED:
            raise TextFault(bracket.place, TOO_MANY_UNCLOSED)
        self.unclosed += 1

    def leave_brackets(self):
        self.expect(")")
        self.unclosed -= 1


def amount_of(digits):
    amount = 0
    for digit in digits:
        amount = amount * 10 + digit - 48
    return amount


def read_number(reader):
    return Number(amount_of(reader.expect("number").spelling))


def read_unknown(reader):
    token = reader.expect("unknown")
    return Unknown(token.spelling, token.place)


def read_arguments(reader, read_one):
    reader.enter_brackets()
    arguments = [read_one(reader)]
    while len(arguments) < MOST_ARGUMENTS and reader.sees(","):
        reader.advance()
        arguments.append(read_one(reader))
    reader.leave_brackets()
    return arguments


def read_term(reader, read_one):
    word = reader.expect("word")
    if reader.sees("("):
        return Term(word.spelling, read_arguments(reader, read_one))
    return Term(word.spelling, [])


def read_pattern(reader):
    if reader.sees("number"):
        return read_number(reader)
    if reader.sees("-"):
        reader.advance()
        return Number(-read_number(reader).amount)
    if reader.sees("unknown"):
        return read_unknown(reader)
    return read_term(reader, read_pattern)


def read_group(reader):
    reader.enter_brackets()
    inside = read_expression(reader)
    reader.leave_brackets()
    return inside


def read_atom(reader):
    if reader.sees("number"):
        return read_number(reader)
    if reader.sees("unknown"):
        return read_unknown(reader)
    if reader.sees("("):
        return read_group(reader)
    return read_term(reader, read_expression)


def read_signed(reader):
    if reader.sees("-"):
        reader.advance()
        return Signed(read_atom(reader))
    return read_atom(reader)


def read_further(reader, signs, read_one):
    """Read what stands behind a chain's first operand."""
    further = []
    while reader.sees_one_of(signs):
        sign = reader.advance()
        further.append((sign.spelling, read_one(reader)))
    return further


def read_product(reader):
    first = read_signed(reader)
    further = read_further(reader, PRODUCT_SIGNS, read_signed)
    return Product(first, further) if further else first


def read_expression(reader):
    first = read_product(reader)
    further = read_further(reader, SUM_SIGNS, read_product)
    return Sum(first, further) if further else first


def read_test(reader):
    left = read_expression(reader)
    sign = reader.expect_one_of(TEST_SIGNS)
    return Test(left, sign.spelling, read_expression(reader))


def read_placed(reader, read_one):
    place = reader.look().place
    return Placed(place, read_one(reader))


def read_listed(reader, read_one):
    """Read one or more with commas between neighbours."""
    listed = [read_placed(reader, read_one)]
    while reader.sees(","):
        reader.advance()
        listed.append(read_placed(reader, read_one))
    return listed


def read_part(reader, kind, read_one):
    """Read a rule's part of this kind, or nothing where it is left out."""
    if not reader.sees(kind):
        return []
    reader.advance()
    listed = read_listed(reader, read_one)
    reader.expect(";")
    return listed


def read_fail(reader):
    if not reader.sees("fail"):
        return False
    reader.advance()
    reader.expect(";")
    return True


def read_rule(reader):
    reader.expect("rule")
    name = reader.expect("word")
    reader.expect("{")
    kept = read_part(reader, "keep", read_pattern)
    taken = read_part(reader, "take", read_pattern)
    tests = read_part(reader, "if", read_test)
    puts = read_part(reader, "put", read_expression)
    fails = not puts and read_fail(reader)
    reader.expect("}")
    return Rule(name, kept, taken, tests, puts, fails)


def read_level_item(reader):
    reader.expect("level")
    word = reader.expect("word")
    number = reader.expect("number")
    reader.expect(";")
    return LevelItem(word, number, amount_of(number.spelling))


def read_program(text):
    """Give the program that the text is, or raise TextFault."""
    reader = Reader(cut(text))
    rules = []
    level_items = []
    while not reader.sees("end"):
        if reader.sees("level"):
            level_items.append(read_level_item(reader))
        else:
            rules.append(read_rule(reader))
    return Program(rules, level_items)


def read_whole(text, read_one):
    """Give what the whole text is, or raise TextFault."""
    reader = Reader(cut(text))
    shape = read_one(reader)
    reader.expect("end")
    return shape


def pattern_of(text):
    """Give the pattern that the text is, or raise NoPattern."""
    try:
        return read_whole(text, read_pattern)
    except TextFault:
        raise NoPattern("no pattern's text") from None


def value_of(text):
    """Give the value that the text is, or raise NoValue."""
    try:
        pattern = read_whole(text, read_pattern)
    except TextFault:
        raise NoValue("no value's text") from None
    if not is_value(pattern):
        raise NoValue("no value")
    return pattern


def expression_of(text):
    """Give the expression that the text is, or raise NoExpression."""
    try:
        return read_whole(text, read_expression)
    except TextFault:
        raise NoExpression("no expression's text") from None


def test_of(text):
    """Give the test that the text is, or raise NoTest."""
    try:
        return read_whole(text, read_test)
    except TextFault:
        raise NoTest("no test's text") from None


def read_patterns(reader):
    return [pattern.content for pattern in read_listed(reader, read_pattern)]


def facts_of(text):
    """Give the facts that the text lists, or raise NoFacts."""
    try:
        patterns = read_whole(text, read_patterns)
    except TextFault:
        raise NoFacts("not values' texts with commas between neighbours") from None
    if not all([is_fact(pattern) for pattern in patterns]):
        raise NoFacts("one of them is no fact")
    return patterns


def read_word(reader):
    return reader.expect("word").spelling


def word_of(text):
    """Give the bytes of the one word that the text is, or raise NoWord."""
    try:
        return read_whole(text, read_word)
    except TextFault:
        raise NoWord("not one word") from None
