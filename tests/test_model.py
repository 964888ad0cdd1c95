"""Random calls of work, test, use, rule and level, against another way to work them out.

Patterns, values and expressions are read by Python's own reading here, since operators and brackets
mean the same in it; values are whole numbers and tuples of a word and its arguments.
"""

import ast
import fractions
import math
import random
import unittest

from tests.helper import LEVEL, LOAD, RULE, TEST, USE, WORK, answers, as_bytes, call, puts, split, worth

GREATEST = 999999999
NUMBERS = ("0", "0", "1", "2", "3", "5", "7", "10", "31623", "999999999", "999999998", "500000000")
UNKNOWNS = ("A", "B", "C")
SIGNS = ("=", "<>", "<", "<=")


class Nothing(Exception):
    """An expression is worth nothing."""


def parts(value):
    return 1 if isinstance(value, int) else 1 + sum(parts(argument) for argument in value[1:])


def depth(value):
    return 1 if isinstance(value, int) else 1 + max([depth(argument) for argument in value[1:]], default=0)


def written(value):
    if isinstance(value, int):
        return str(value)
    return value[0] + ("(" + ", ".join(written(argument) for argument in value[1:]) + ")" if value[1:] else "")


def tree(text):
    return ast.parse(text, mode="eval").body


def number(value):
    if not isinstance(value, int) or abs(value) > GREATEST:
        raise Nothing
    return value


def meaning(node, bound):
    """Give what the expression is worth, or raise Nothing."""
    if isinstance(node, ast.Constant):
        return node.value
    if isinstance(node, ast.Name) and node.id[0].isupper():
        if node.id not in bound:
            raise Nothing
        return bound[node.id]
    if isinstance(node, (ast.Name, ast.Call)):
        word = node.id if isinstance(node, ast.Name) else node.func.id
        term = (word, *[meaning(argument, bound) for argument in getattr(node, "args", [])])
        if parts(term) > 20 or depth(term) > 6:
            raise Nothing
        return term
    if isinstance(node, ast.UnaryOp):
        return -number(meaning(node.operand, bound))
    return number(operation(node.op, number(meaning(node.left, bound)), number(meaning(node.right, bound))))


def operation(sign, left, right):
    if isinstance(sign, ast.Add):
        return left + right
    if isinstance(sign, ast.Sub):
        return left - right
    if isinstance(sign, ast.Mult):
        return left * right
    if right == 0:
        raise Nothing
    floor = math.floor(fractions.Fraction(left, right))
    return floor if isinstance(sign, ast.Div) else left - right * floor


def matched(pairs):
    """Give the binding of matching texts of patterns with values, or None."""
    bound = {}
    waiting = [(tree(pattern), value) for pattern, value in reversed(pairs)]
    while waiting:
        node, value = waiting.pop()
        if isinstance(node, ast.Name) and node.id[0].isupper():
            if bound.setdefault(node.id, value) != value:
                return None
        elif isinstance(node, ast.Call):
            if isinstance(value, int) or value[0] != node.func.id or len(value) != len(node.args) + 1:
                return None
            waiting.extend(reversed(list(zip(node.args, value[1:]))))
        elif meaning(node, {}) != value:
            return None
    return bound


def does_hold(test, bound):
    left, sign, right = test
    try:
        one, other = meaning(tree(left), bound), meaning(tree(right), bound)
    except Nothing:
        return False
    if sign in ("=", "<>"):
        return (one == other) == (sign == "=")
    numbers = isinstance(one, int) and isinstance(other, int)
    return numbers and (one < other or sign == "<=" and one == other)


def answer_of_work(pattern, value, expression):
    bound = matched([(pattern, value)])
    if bound is None:
        return [1]
    try:
        return worth(written(meaning(tree(expression), bound)))
    except Nothing:
        return [2]


def answer_of_test(pattern, value, test):
    bound = matched([(pattern, value)])
    return [2] if bound is None else [int(does_hold(test, bound))]


def answer_of_use(rule, facts):
    heads = rule["keep"] + rule["take"]
    if len(heads) != len(facts):
        return [-10]
    bound = matched(list(zip(heads, facts)))
    if bound is None or not all([does_hold(test, bound) for test in rule["if"]]):
        return [2]
    try:
        values = [written(meaning(tree(put), bound)) for put in rule["put"]]
    except Nothing:
        return [2]
    return [1] if rule["fail"] else puts(*values)


def random_value(source, levels):
    if levels == 0 or source.randrange(3) == 0:
        return source.choice([("a",), ("b",), int(source.choice(NUMBERS)), -int(source.choice(NUMBERS))])
    return (source.choice("fg"), *[random_value(source, levels - 1) for turn in range(source.randrange(1, 4))])


def random_fact(source):
    return (source.choice("fg"), *[random_value(source, 1) for turn in range(source.randrange(1, 3))])


def random_pattern(source, value, odds):
    """Give the text of a pattern that often matches the value."""
    if source.randrange(odds) == 0:
        return source.choice(UNKNOWNS)
    if source.randrange(30) == 0:
        return written(random_value(source, 1))
    if isinstance(value, int) or len(value) == 1:
        return written(value)
    return value[0] + "(" + ", ".join(random_pattern(source, argument, 2) for argument in value[1:]) + ")"


def random_head(source, value):
    return value[0] + "(" + ", ".join(random_pattern(source, argument, 2) for argument in value[1:]) + ")"


def random_expression(source, levels, unknowns):
    way = source.randrange(7) if levels > 0 else 0
    if way == 0:
        return source.choice(list(unknowns) * 3 + ["a", *NUMBERS])
    if way == 1:
        return source.choice("fg") + "(" + ", ".join(
            random_expression(source, levels - 1, unknowns) for turn in range(source.randrange(1, 4))
        ) + ")"
    if way == 2:
        return "-(" + random_expression(source, levels - 1, unknowns) + ")"
    left = random_expression(source, levels - 1, unknowns)
    right = random_expression(source, levels - 1, unknowns)
    if source.randrange(3) == 0:
        left = "(" + left + ")"
    if right.startswith("-") or source.randrange(3) == 0:
        right = "(" + right + ")"
    return left + source.choice([" + ", " - ", "*", "/", " % "]) + right


def random_test(source, unknowns):
    left, right = random_expression(source, 2, unknowns), random_expression(source, 1, unknowns)
    return left, source.choice(SIGNS), right


def random_rule(source, name):
    """Give a rule, and facts that often fit it."""
    facts = [random_fact(source) for turn in range(source.randrange(1, 4))]
    heads = [random_head(source, fact) for fact in facts]
    kept = source.randrange(len(heads) + 1)
    unknowns = [unknown for unknown in UNKNOWNS if any(unknown in head for head in heads)]
    fails = source.randrange(4) == 0
    put = [] if fails else [
        "f(" + random_expression(source, 2, unknowns) + ")" for turn in range(source.randrange(4))
    ]
    tests = [random_test(source, unknowns) for turn in range(source.choice([0, 0, 1, 1, 2]))]
    return {"name": name, "keep": heads[:kept], "take": heads[kept:], "if": tests, "put": put, "fail": fails}, facts


def rule_text(rule):
    text = "rule " + rule["name"] + "{"
    for part in ["keep", "take", "put"]:
        if part == "put" and rule["if"]:
            text += "if " + ",".join(" ".join(test) for test in rule["if"]) + ";"
        if rule[part]:
            text += part + " " + ",".join(rule[part]) + ";"
    return text + ("fail;" if rule["fail"] else "") + "}"


class Model(unittest.TestCase):
    def compare(self, asked):
        """Make all calls on one object, and compare each answer with what is expected."""
        calls = [number for one, expected in asked for number in one]
        self.assertLessEqual(len(calls), 16000)
        told = split(answers(calls))
        self.assertEqual(len(told), len(asked))
        for (one, expected), answer in zip(asked, told):
            self.assertEqual(answer, expected, one[:1] + [bytes(n % 256 for n in one[1:])])

    def test_work_and_test(self):
        source = random.Random(31)
        seen = {}
        for turn in range(40):
            asked = []
            for call_number in range(80):
                value = random_value(source, 2)
                pattern = random_pattern(source, value, 3)
                expression, test = random_expression(source, 3, UNKNOWNS), random_test(source, UNKNOWNS)
                value_text = written(value)
                if parts(value) <= 20:
                    asked.append((call(WORK, pattern, value_text, expression), answer_of_work(pattern, value, expression)))
                    asked.append((call(TEST, pattern, value_text, " ".join(test)), answer_of_test(pattern, value, test)))
            for one, expected in asked:
                seen[one[0], expected[0]] = seen.get((one[0], expected[0]), 0) + 1
            self.compare(asked)
        for kind in [(WORK, 0), (WORK, 1), (WORK, 2), (TEST, 0), (TEST, 1), (TEST, 2)]:
            self.assertGreater(seen[kind], 100, seen)

    def test_use_rule_and_level(self):
        source = random.Random(32)
        seen = {}
        for turn in range(150):
            drawn = [random_rule(source, "r" + str(place)) for place in range(source.randrange(1, 7))]
            levels = {word: source.randrange(6) for word in "abcdefg" if source.randrange(2)}
            items = ["level " + word + " " + str(level) + ";" for word, level in levels.items()]
            texts = [rule_text(rule) for rule, facts in drawn]
            for item in items:
                texts.insert(source.randrange(len(texts) + 1), item)
            program = "\n".join(texts)
            if len(program) > 2000:
                continue
            asked = [(call(LOAD, program), [0, len(drawn), len(items)])]
            for place, (rule, facts) in enumerate(drawn):
                other = source.choice(drawn)[1]
                for given in [facts, facts, other, [random_fact(source) for fact in facts]]:
                    text = ",".join(written(fact) for fact in given)
                    asked.append((call(USE, place, text), answer_of_use(rule, given)))
            for word in "abcdefg":
                asked.append((call(LEVEL, word), [0, levels.get(word, 0)]))
            for one, expected in asked[1:]:
                seen[one[0], expected[0]] = seen.get((one[0], expected[0]), 0) + 1
            self.compare(asked)
            counts = split(answers(call(LOAD, program) + [n for place in range(len(drawn)) for n in [RULE, place]]))
            for (rule, facts), answer in zip(drawn, counts[1:]):
                sizes = [len(rule[part]) for part in ["keep", "take", "if", "put"]]
                self.assertEqual(answer[:6], [0, *sizes, int(rule["fail"])])
                self.assertEqual(answer[6:-2][:5 + len(rule["name"])], as_bytes("rule " + rule["name"]))
        for kind in [(USE, 0), (USE, 1), (USE, 2), (USE, -10)]:
            self.assertGreater(seen[kind], 50, seen)


if __name__ == "__main__":
    unittest.main()
