"""The forms of values, patterns, expressions, tests, rules and programs, as lists of bytes."""

from factrulesdesk.shapes import Chain, Number, Product, Signed, Sum, Term, Unknown
from factrulesdesk.tokens import bytes_of


def joined(forms):
    """Give the forms with a comma and a blank between neighbours."""
    together = []
    for form in forms:
        if together:
            together.extend(bytes_of(", "))
        together.extend(form)
    return together


def in_brackets(form):
    return bytes_of("(") + form + bytes_of(")")


def form_of(shape):
    """Give the form of a value, a pattern or an expression."""
    if isinstance(shape, Number):
        return bytes_of(str(shape.amount))
    if isinstance(shape, Unknown):
        return list(shape.name)
    if isinstance(shape, Term):
        return term_form(shape)
    if isinstance(shape, Signed):
        return signed_form(shape)
    return chain_form(shape)


def term_form(term):
    if not term.arguments:
        return list(term.word)
    return list(term.word) + in_brackets(joined([form_of(argument) for argument in term.arguments]))


def signed_form(signed):
    return bytes_of("-") + operand_form(signed.operand, isinstance(signed.operand, (Signed, Chain)))


def operand_form(operand, needs_brackets):
    form = form_of(operand)
    return in_brackets(form) if needs_brackets else form


def first_needs_brackets(chain):
    return isinstance(chain, Product) and isinstance(chain.first, Sum)


def further_needs_brackets(chain, operand):
    if isinstance(chain, Product):
        return isinstance(operand, Chain)
    return isinstance(operand, Sum)


def chain_form(chain):
    form = operand_form(chain.first, first_needs_brackets(chain))
    for sign, operand in chain.further:
        form.extend(between_blanks(sign))
        form.extend(operand_form(operand, further_needs_brackets(chain, operand)))
    return form


def between_blanks(sign):
    return bytes_of(" ") + list(sign) + bytes_of(" ")


def form_of_test(test):
    return form_of(test.left) + between_blanks(test.sign) + form_of(test.right)


def part_form(word, forms):
    """Give the form of a rule's part with a blank before it, or nothing where it is left out."""
    if not forms:
        return []
    return bytes_of(" " + word + " ") + joined(forms) + bytes_of(";")


def rule_form(rule):
    form = bytes_of("rule ") + list(rule.name.spelling) + bytes_of(" {")
    form.extend(part_form("keep", [form_of(head.content) for head in rule.kept]))
    form.extend(part_form("take", [form_of(head.content) for head in rule.taken]))
    form.extend(part_form("if", [form_of_test(test.content) for test in rule.tests]))
    form.extend(part_form("put", [form_of(put.content) for put in rule.puts]))
    if rule.fails:
        form.extend(bytes_of(" fail;"))
    return form + bytes_of(" }")


def level_item_form(item):
    return bytes_of("level ") + list(item.word.spelling) + bytes_of(" " + str(item.amount) + ";")


def program_form(program):
    form = []
    for rule in program.rules:
        form.extend(rule_form(rule) + bytes_of("\n"))
    for item in program.level_items:
        form.extend(level_item_form(item) + bytes_of("\n"))
    return form
