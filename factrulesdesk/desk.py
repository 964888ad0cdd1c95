"""The object that the calls are made on."""

from factrulesdesk.faults import LONGEST_TEXT, faults_of
from factrulesdesk.forms import form_of, program_form, rule_form
from factrulesdesk.matching import binding_from
from factrulesdesk.reading import expression_of, facts_of, pattern_of, read_program, test_of, value_of, word_of
from factrulesdesk.refusals import FaultyProgram, NoRule, NothingHeld, TextTooLong, WrongFactCount
from factrulesdesk.shapes import count_parts, depth_of, heads_of, level_of
from factrulesdesk.uses import worths_put
from factrulesdesk.working import holds, worth_of


def refuse_long(texts):
    for text in texts:
        if len(text) > LONGEST_TEXT:
            raise TextTooLong("a text is too long")


def counted(row):
    """Give the row with how many numbers it has before it."""
    return [len(row)] + list(row)


def one_or_zero(truth):
    """Give a whole number, since answers hold neither True nor False."""
    return 1 if truth else 0


def binding_answer(binding):
    answer = [len(binding)]
    for name, value in binding.items():
        answer.extend(counted(name) + counted(form_of(value)))
    return answer


def puts_answer(worths):
    answer = [len(worths)]
    for worth in worths:
        answer.extend(counted(form_of(worth)))
    return answer


class Desk:
    """Holds a program, or none; each call gives its answer's numbers or raises its refusal."""

    def __init__(self):
        self.program = None

    def check(self, text):
        refuse_long([text])
        answer = [0]
        for place, number in faults_of(text):
            answer.extend([place, number])
        return answer

    def load(self, text):
        refuse_long([text])
        if faults_of(text):
            raise FaultyProgram("the text has a fault")
        self.program = read_program(text)
        return [0, len(self.program.rules), len(self.program.level_items)]

    def form(self):
        return [0] + program_form(self.held_program())

    def value(self, text):
        refuse_long([text])
        found = value_of(text)
        return [0, count_parts(found), depth_of(found)] + form_of(found)

    def fit(self, pattern_text, value_text):
        refuse_long([pattern_text, value_text])
        pattern = pattern_of(pattern_text)
        binding = binding_from([pattern], [value_of(value_text)])
        return [1] if binding is None else [0] + binding_answer(binding)

    def work(self, pattern_text, value_text, expression_text):
        refuse_long([pattern_text, value_text, expression_text])
        pattern = pattern_of(pattern_text)
        found = value_of(value_text)
        expression = expression_of(expression_text)
        binding = binding_from([pattern], [found])
        if binding is None:
            return [1]
        worth = worth_of(expression, binding)
        return [2] if worth is None else [0] + form_of(worth)

    def test(self, pattern_text, value_text, test_text):
        refuse_long([pattern_text, value_text, test_text])
        pattern = pattern_of(pattern_text)
        found = value_of(value_text)
        asked = test_of(test_text)
        binding = binding_from([pattern], [found])
        return [2] if binding is None else [one_or_zero(holds(asked, binding))]

    def use(self, number, facts_text):
        rule = self.held_rule(number)
        refuse_long([facts_text])
        facts = facts_of(facts_text)
        if len(facts) != len(heads_of(rule)):
            raise WrongFactCount("not as many facts as heads")
        worths = worths_put(rule, facts)
        if worths is None:
            return [2]
        return [1] if rule.fails else [0] + puts_answer(worths)

    def rule(self, number):
        rule = self.held_rule(number)
        counts = [len(rule.kept), len(rule.taken), len(rule.tests), len(rule.puts), one_or_zero(rule.fails)]
        return [0] + counts + rule_form(rule)

    def level(self, text):
        program = self.held_program()
        refuse_long([text])
        return [0, level_of(program, word_of(text))]

    def held_program(self):
        if self.program is None:
            raise NothingHeld("no program is held")
        return self.program

    def held_rule(self, number):
        rules = self.held_program().rules
        if not 0 <= number < len(rules):
            raise NoRule("no rule has this number")
        return rules[number]
