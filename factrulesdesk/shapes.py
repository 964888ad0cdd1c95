"""What texts are read into: values, patterns, expressions, tests, rules and programs.

A word or an unknown's name is a tuple of its bytes. Brackets that only group leave no trace.
"""

MOST_PARTS = 20
GREATEST_DEPTH = 6


class Number:
    """A number as a value, as a pattern or in an expression."""

    def __init__(self, amount):
        self.amount = amount


class Unknown:
    """An unknown, and its place in the text."""

    def __init__(self, name, place):
        self.name = name
        self.place = place


class Term:
    """A word with its arguments: values, patterns or expressions."""

    def __init__(self, word, arguments):
        self.word = word
        self.arguments = arguments


class Signed:
    """An expression behind the sign - of its own."""

    def __init__(self, operand):
        self.operand = operand


class Chain:
    """Operands with operators between them: the first, then pairs of an operator's bytes and an operand.

    It is flat, since operators go to the left and there may be hundreds of them in a row.
    """

    def __init__(self, first, further):
        self.first = first
        self.further = further


class Product(Chain):
    """A chain whose operators are those that bind tighter."""


class Sum(Chain):
    """A chain whose operators are + and - ."""


class Test:
    """Two expressions and the bytes of the sign between them."""

    def __init__(self, left, sign, right):
        self.left = left
        self.sign = sign
        self.right = right


class Placed:
    """A part of a rule, and the place of its first token."""

    def __init__(self, place, content):
        self.place = place
        self.content = content


class Rule:
    """A rule: the token of its name, its parts as lists of placed ones, and whether it fails."""

    def __init__(self, name, kept, taken, tests, puts, fails):
        self.name = name
        self.kept = kept
        self.taken = taken
        self.tests = tests
        self.puts = puts
        self.fails = fails


class LevelItem:
    """A level item: the tokens of its word and its number, and that number's amount."""

    def __init__(self, word, number, amount):
        self.word = word
        self.number = number
        self.amount = amount


class Program:
    """Rules and level items, each in the order of the text."""

    def __init__(self, rules, level_items):
        self.rules = rules
        self.level_items = level_items


def heads_of(rule):
    """Give the rule's heads: the kept ones, then the taken ones."""
    return rule.kept + rule.taken


def level_of(program, word):
    for item in program.level_items:
        if item.word.spelling == word:
            return item.amount
    return 0


def pieces_of(shape):
    """Give what the shape is made of, one step down."""
    if isinstance(shape, Term):
        return shape.arguments
    if isinstance(shape, Signed):
        return [shape.operand]
    if isinstance(shape, Chain):
        return [shape.first] + [pair[1] for pair in shape.further]
    if isinstance(shape, Test):
        return [shape.left, shape.right]
    return []


def unknowns_in(shape):
    """Give all unknowns that stand in the shape, in no promised order."""
    found = []
    waiting = [shape]
    while waiting:
        piece = waiting.pop()
        if isinstance(piece, Unknown):
            found.append(piece)
        waiting.extend(pieces_of(piece))
    return found


def count_parts(value):
    return 1 + sum([count_parts(argument) for argument in pieces_of(value)])


def depth_of(value):
    return 1 + max([depth_of(argument) for argument in pieces_of(value)], default=0)


def is_small_enough(shape):
    """Tell whether what is built like a value keeps to the bounds of one."""
    return count_parts(shape) <= MOST_PARTS and depth_of(shape) <= GREATEST_DEPTH


def is_value(pattern):
    return not unknowns_in(pattern) and is_small_enough(pattern)


def is_fact(pattern):
    return isinstance(pattern, Term) and is_value(pattern)
