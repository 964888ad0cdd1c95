"""The first wrong token, and the forms' brackets, against other ways to work them out.

The document's grammar is written down here as it stands and gone through by a general method
(Earley's), so that the program's own way of reading is not needed to know what can stand where.
"""

import ast
import random
import unittest

from tests.helper import check, faults, fit, form, holds, level, use, value, work

GRAMMAR = {
    "program": ["", "program rule", "program level"],
    "rule": ["RULE w { keeps takes ifs puts }"],
    "level": ["LEVEL w n ;"],
    "keeps": ["", "KEEP patterns ;"],
    "takes": ["", "TAKE patterns ;"],
    "ifs": ["", "IF tests ;"],
    "puts": ["", "PUT expressions ;", "FAIL ;"],
    "patterns": ["pattern", "patterns , pattern"],
    "tests": ["test", "tests , test"],
    "expressions": ["sum", "expressions , sum"],
    "pattern": [
        "n", "- n", "u", "w", "w ( pattern )", "w ( pattern , pattern )", "w ( pattern , pattern , pattern )",
    ],
    "atom": ["n", "u", "w", "w ( sum )", "w ( sum , sum )", "w ( sum , sum , sum )", "( sum )"],
    "signed": ["atom", "- atom"],
    "product": ["signed", "product * signed", "product / signed", "product % signed"],
    "sum": ["product", "sum + product", "sum - product"],
    "test": ["sum = sum", "sum <> sum", "sum < sum", "sum <= sum"],
    "value": ["n", "- n", "fact"],
    "fact": ["w", "w ( value )", "w ( value , value )", "w ( value , value , value )"],
    "facts": ["fact", "facts , fact"],
    "word": ["w"],
}
RULES = {name: [tuple(side.split()) for side in sides] for name, sides in GRAMMAR.items()}
TOKENS = sorted({part for sides in RULES.values() for side in sides for part in side if part not in RULES})
SPELLINGS = {"w": ["a", "b1", "cD", "rules"], "u": ["X", "Yz"], "n": ["0", "1", "007", "2"]}


def closure(states, items, place):
    """Add what is expected and what is ended at a place, until nothing more comes."""
    waiting = list(items)
    states.append(set(items))
    while waiting:
        name, side, dot, start = waiting.pop()
        if dot < len(side) and side[dot] in RULES:
            found = [(side[dot], other, 0, place) for other in RULES[side[dot]]]
            if any(item[0] == side[dot] and item[3] == place and item[2] == len(item[1]) for item in states[place]):
                found.append((name, side, dot + 1, start))
        elif dot == len(side):
            found = [
                (item[0], item[1], item[2] + 1, item[3])
                for item in states[start] if item[2] < len(item[1]) and item[1][item[2]] == name
            ]
        else:
            found = []
        for item in found:
            if item not in states[place]:
                states[place].add(item)
                waiting.append(item)


def first_wrong(tokens, whole="program"):
    """Give the index of the first token that can't stand there, their number at the end, or None."""
    states = []
    closure(states, [(whole, side, 0, 0) for side in RULES[whole]], 0)
    for index, token in enumerate(tokens):
        moved = [
            (name, side, dot + 1, start)
            for name, side, dot, start in states[index] if dot < len(side) and side[dot] == token
        ]
        if not moved:
            return index
        closure(states, moved, index + 1)
    ended = any(
        name == whole and dot == len(side) and start == 0 for name, side, dot, start in states[len(tokens)]
    )
    return None if ended else len(tokens)


def derive(source, name, budget):
    """Give random tokens that the grammar derives from a name."""
    if name not in RULES:
        return [name]
    sides = RULES[name]
    if budget <= 0:
        sides = sides[:1]
    side = source.choice(sides)
    return [token for part in side for token in derive(source, part, budget - 1)]


def mutate(source, tokens):
    """Give the tokens with one small change."""
    place = source.randrange(len(tokens) + 1)
    way = source.randrange(5)
    if way == 0:
        return tokens[:place]
    if way == 1:
        return tokens[:place] + [source.choice(TOKENS)] + tokens[place:]
    if way == 2:
        return tokens[:place] + tokens[place + 1:]
    if way == 3:
        return tokens[:place] + [source.choice(TOKENS)] + tokens[place + 1:]
    return tokens


def spell(source, tokens):
    """Give a text of the tokens, and their places."""
    text = ""
    places = []
    for token in tokens:
        text += source.choice([" ", "\n", "  "])
        places.append(len(text))
        text += source.choice(SPELLINGS[token]) if token in SPELLINGS else token.lower()
    return text + " ", places


class FirstWrongToken(unittest.TestCase):
    def test_random_programs(self):
        source = random.Random(20)
        wrong = 0
        for turn in range(1500):
            tokens = mutate(source, derive(source, source.choice(["program", "rule", "rule"]), 9))
            if len(tokens) > 120 or tokens.count("(") > 20:
                continue
            text, places = spell(source, tokens)
            index = first_wrong(tokens)
            told = check(text)
            if index is None:
                self.assertEqual([number for number in told[2::2] if number < 11], [], text)
            else:
                wrong += 1
                self.assertEqual(told, faults(((places + [len(text)])[index], 3)), text)
        self.assertGreater(wrong, 300)

    def test_every_token_behind_every_beginning(self):
        beginnings = [
            "", "RULE", "RULE w", "RULE w {", "RULE w { KEEP", "RULE w { KEEP w", "RULE w { KEEP w (",
            "RULE w { KEEP w ( n", "RULE w { KEEP w ( n , n", "RULE w { KEEP w ( n , n , n", "RULE w { KEEP -",
            "RULE w { KEEP w ;", "RULE w { TAKE u", "RULE w { TAKE w ;", "RULE w { IF", "RULE w { IF n",
            "RULE w { IF n <", "RULE w { IF n < n", "RULE w { IF n < n ,", "RULE w { IF n < n ;", "RULE w { PUT",
            "RULE w { PUT w", "RULE w { PUT w (", "RULE w { PUT w ( n", "RULE w { PUT w ( n , n , n",
            "RULE w { PUT w ( n , n , n + n", "RULE w { PUT - ", "RULE w { PUT n -", "RULE w { PUT n - -",
            "RULE w { PUT ( n", "RULE w { PUT ( n )", "RULE w { PUT u", "RULE w { PUT w ( n )", "RULE w { PUT n *",
            "RULE w { PUT w ;", "RULE w { FAIL", "RULE w { FAIL ;", "RULE w { }", "LEVEL", "LEVEL w", "LEVEL w n",
            "LEVEL w n ;", "RULE w { PUT ( w ( n ) , ", "RULE w { IF ( n",
        ]
        source = random.Random(21)
        for beginning in beginnings:
            for token in TOKENS:
                tokens = beginning.split() + [token]
                text, places = spell(source, tokens)
                index = first_wrong(tokens)
                expected = [] if index is None else [((places + [len(text)])[index], 3)]
                told = check(text)
                if index is not None:
                    self.assertEqual(told, faults(*expected), text)
                else:
                    self.assertEqual([number for number in told[2::2] if number < 11], [], text)


class WholeTexts(unittest.TestCase):
    """What is a pattern's, a value's, an expression's, a test's text, and so on."""

    def compare(self, whole, refusal, asked):
        """Compare for random texts whether they are refused with whether the grammar has them."""
        source = random.Random(whole)
        counts = {True: 0, False: 0}
        starts = [whole, whole, whole, "sum", "pattern", "test", "facts", "word", "value"]
        for turn in range(700):
            tokens = mutate(source, derive(source, source.choice(starts), 5))
            if len(tokens) > 40 or tokens.count("(") > 5:
                continue
            text, places = spell(source, tokens)
            is_one = first_wrong(tokens, whole) is None
            counts[is_one] += 1
            self.assertEqual(asked(text) != [refusal], is_one, text)
        self.assertGreater(counts[True], 60)
        self.assertGreater(counts[False], 60)

    def test_expressions(self):
        self.compare("sum", -6, lambda text: work("a", "a", text))

    def test_tests(self):
        self.compare("test", -7, lambda text: holds("a", "a", text))

    def test_patterns(self):
        self.compare("pattern", -5, lambda text: fit(text, "a"))
        self.compare("pattern", -5, lambda text: work(text, "a", "a"))
        self.compare("pattern", -5, lambda text: holds(text, "a", "1 = 1"))

    def test_values(self):
        self.compare("value", -4, value)
        self.compare("value", -4, lambda text: fit("X", text))
        self.compare("value", -4, lambda text: work("X", text, "1"))
        self.compare("value", -4, lambda text: holds("X", text, "1 = 1"))

    def test_facts(self):
        self.compare("facts", -9, lambda text: use("rule a { take f; }", 0, text))

    def test_words(self):
        self.compare("word", -11, lambda text: level("", text))


def random_expression(source, depth):
    """Give a random expression with brackets that are needed and ones that are not."""
    way = source.randrange(8) if depth > 0 else 0
    if way == 0:
        return source.choice(["A", "B", "1", "20", "a"])
    if way == 1:
        return "g(" + random_expression(source, depth - 1) + ", " + random_expression(source, depth - 1) + ")"
    if way == 2:
        return "-(" + random_expression(source, depth - 1) + ")"
    if way == 3:
        return "(" + random_expression(source, depth - 1) + ")"
    left, right = random_expression(source, depth - 1), random_expression(source, depth - 1)
    if right.startswith("-") or source.randrange(2):
        right = "(" + right + ")"
    if source.randrange(2):
        left = "(" + left + ")"
    return left + source.choice(" +-*/%").replace(" ", " - ") + right


def tree(expression):
    """Give Python's own reading of an expression; its operators bind as the document's do."""
    return ast.dump(ast.parse(expression.strip(), mode="eval"))


def bracket_pairs(expression):
    """Give the places of the brackets that only group."""
    pairs = []
    unclosed = []
    for place, sign in enumerate(expression):
        if sign == "(":
            unclosed.append((place, place > 0 and expression[place - 1].isalnum()))
        elif sign == ")":
            start, is_term = unclosed.pop()
            if not is_term:
                pairs.append((start, place))
    return pairs


class Brackets(unittest.TestCase):
    def test_forms_mean_the_same_with_as_few_brackets(self):
        source = random.Random(22)
        begin, end = "rule r { take f(A, B); put h(", "); }\n"
        for turn in range(1500):
            expression = random_expression(source, 4)
            written = form(begin + expression + end)[len(begin):-len(end)]
            self.assertEqual(tree(written), tree(expression), expression)
            for start, close in bracket_pairs(written):
                without = written[:start] + " " + written[start + 1:close] + " " + written[close + 1:]
                if written[start - 1:start + 2] == "-(-" and tree(without) == tree(written):
                    continue
                self.assertNotEqual(tree(without), tree(written), written)
            self.assertEqual(form(begin + written + end)[len(begin):-len(end)], written)


if __name__ == "__main__":
    unittest.main()
