"""All that is wrong with a program's text, as pairs of a place and a fault's number."""

from factrulesdesk.forms import program_form
from factrulesdesk.reading import read_program
from factrulesdesk.refusals import TextFault
from factrulesdesk.shapes import Term, heads_of, unknowns_in

LONGEST_TEXT = 3000

SAME_RULE_NAME = 11
TOO_MANY_RULES = 12
NO_HEADS = 13
TOO_MANY_HEADS = 14
TOO_MANY_TESTS = 15
TOO_MANY_PUTS = 16
HEAD_IS_NO_TERM = 17
PUT_IS_NO_TERM = 18
UNKNOWN_IN_NO_HEAD = 19
LEVEL_TOO_GREAT = 21
SAME_LEVEL_WORD = 22
TOO_MANY_LEVEL_ITEMS = 23
FORM_TOO_LONG = 25

MOST_RULES = 12
MOST_LEVEL_ITEMS = 12
MOST_HEADS = 3
MOST_TESTS = 4
MOST_PUTS = 4
GREATEST_LEVEL = 5


def repeated_faults(tokens, same_number, most, beyond_number):
    """Give the faults of names that came before, and of those that are beyond the most."""
    found = []
    known = {}
    for index, token in enumerate(tokens):
        if token.spelling in known:
            found.append((token.place, same_number))
        if index >= most:
            found.append((token.place, beyond_number))
        known[token.spelling] = True
    return found


def size_faults(rule):
    heads = len(heads_of(rule))
    found = []
    if heads == 0:
        found.append((rule.name.place, NO_HEADS))
    if heads > MOST_HEADS:
        found.append((rule.name.place, TOO_MANY_HEADS))
    if len(rule.tests) > MOST_TESTS:
        found.append((rule.name.place, TOO_MANY_TESTS))
    if len(rule.puts) > MOST_PUTS:
        found.append((rule.name.place, TOO_MANY_PUTS))
    return found


def term_faults(rule):
    heads = [(head.place, HEAD_IS_NO_TERM) for head in heads_of(rule) if not isinstance(head.content, Term)]
    puts = [(put.place, PUT_IS_NO_TERM) for put in rule.puts if not isinstance(put.content, Term)]
    return heads + puts


def names_in_heads(rule):
    known = {}
    for head in heads_of(rule):
        for unknown in unknowns_in(head.content):
            known[unknown.name] = True
    return known


def unknown_faults(rule):
    known = names_in_heads(rule)
    found = []
    for part in rule.tests + rule.puts:
        for unknown in unknowns_in(part.content):
            if unknown.name not in known:
                found.append((unknown.place, UNKNOWN_IN_NO_HEAD))
    return found


def rules_faults(rules):
    found = repeated_faults([rule.name for rule in rules], SAME_RULE_NAME, MOST_RULES, TOO_MANY_RULES)
    for rule in rules:
        found.extend(size_faults(rule) + term_faults(rule) + unknown_faults(rule))
    return found


def level_items_faults(items):
    words = [item.word for item in items]
    found = repeated_faults(words, SAME_LEVEL_WORD, MOST_LEVEL_ITEMS, TOO_MANY_LEVEL_ITEMS)
    too_great = [(item.number.place, LEVEL_TOO_GREAT) for item in items if item.amount > GREATEST_LEVEL]
    return found + too_great


def program_faults(program, length):
    """Give the faults of a program whose text has this length and could be read."""
    found = rules_faults(program.rules) + level_items_faults(program.level_items)
    if not found and len(program_form(program)) > LONGEST_TEXT:
        return [(length, FORM_TOO_LONG)]
    return sorted(found)


def faults_of(text):
    """Give all faults of the text, in the order of their places and then their numbers."""
    try:
        program = read_program(text)
    except TextFault as fault:
        return [(fault.place, fault.number)]
    return program_faults(program, len(text))
