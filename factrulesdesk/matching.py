"""Matching patterns with values.

A binding is a dict from an unknown's name to its value; a dict keeps the order in which they came.
"""

from factrulesdesk.shapes import Number, Term, Unknown


def same_terms(one, other):
    if one.word != other.word or len(one.arguments) != len(other.arguments):
        return False
    return all([same_values(first, second) for first, second in zip(one.arguments, other.arguments)])


def same_values(one, other):
    """Tell whether two values are the same."""
    if isinstance(one, Number) and isinstance(other, Number):
        return one.amount == other.amount
    if isinstance(one, Term) and isinstance(other, Term):
        return same_terms(one, other)
    return False


def match_unknown(name, value, binding):
    if name in binding:
        return same_values(binding[name], value)
    binding[name] = value
    return True


def match_term(pattern, value, binding):
    if not isinstance(value, Term) or pattern.word != value.word:
        return False
    if len(pattern.arguments) != len(value.arguments):
        return False
    for wanted, given in zip(pattern.arguments, value.arguments):
        if not match(wanted, given, binding):
            return False
    return True


def match(pattern, value, binding):
    """Tell whether the pattern matches the value, and put what its unknowns get into the binding.

    Where it doesn't match, the binding is left half done and is of no use any more.
    """
    if isinstance(pattern, Unknown):
        return match_unknown(pattern.name, value, binding)
    if isinstance(pattern, Number):
        return same_values(pattern, value)
    return match_term(pattern, value, binding)


def binding_from(patterns, values):
    """Match as many patterns with values one after the other, and give the binding, or None if they don't match."""
    binding = {}
    for pattern, value in zip(patterns, values):
        if not match(pattern, value, binding):
            return None
    return binding
