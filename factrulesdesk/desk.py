"""The object that the calls are made on."""

from factrulesdesk.faults import LONGEST_TEXT, faults_of
from factrulesdesk.forms import form_of, program_form
from factrulesdesk.matching import match
from factrulesdesk.reading import pattern_of, read_program, value_of
from factrulesdesk.refusals import FaultyProgram, NothingHeld, TextTooLong
from factrulesdesk.shapes import count_parts, depth_of


def refuse_long(texts):
    for text in texts:
        if len(text) > LONGEST_TEXT:
            raise TextTooLong("a text is too long")


def counted(row):
    """Give the row with how many numbers it has before it."""
    return [len(row)] + list(row)


def binding_answer(binding):
    answer = [len(binding)]
    for name, value in binding.items():
        answer.extend(counted(name) + counted(form_of(value)))
    return answer


class Desk:
    """Holds a program, or none; each call gives its answer's numbers or raises its refusal."""

    def __init__(self):
        self.program = None

    def check(self, text):
        refuse_long([text])
        answer = [0]
        for place, number in faults_of(text):
            answer.extend([place, number])
        return answer

    def load(self, text):
        refuse_long([text])
        if faults_of(text):
            raise FaultyProgram("the text has a fault")
        self.program = read_program(text)
        return [0, len(self.program.rules), len(self.program.level_items)]

    def form(self):
        return [0] + program_form(self.held_program())

    def value(self, text):
        refuse_long([text])
        found = value_of(text)
        return [0, count_parts(found), depth_of(found)] + form_of(found)

    def fit(self, pattern_text, value_text):
        refuse_long([pattern_text, value_text])
        pattern = pattern_of(pattern_text)
        found = value_of(value_text)
        binding = {}
        if not match(pattern, found, binding):
            return [1]
        return [0] + binding_answer(binding)

    def held_program(self):
        if self.program is None:
            raise NothingHeld("no program is held")
        return self.program
