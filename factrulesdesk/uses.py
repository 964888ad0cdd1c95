"""What a rule does with facts."""

from factrulesdesk.matching import binding_from
from factrulesdesk.shapes import heads_of
from factrulesdesk.working import holds, worths_of


def fitting_binding(rule, facts):
    """Give the binding with which the facts, as many as the heads, fit the rule, or None if they don't."""
    binding = binding_from([head.content for head in heads_of(rule)], facts)
    if binding is None or not all([holds(test.content, binding) for test in rule.tests]):
        return None
    return binding


def worths_put(rule, facts):
    """Give the values that the rule puts, or None if the facts are no use of it."""
    binding = fitting_binding(rule, facts)
    if binding is None:
        return None
    return worths_of([put.content for put in rule.puts], binding)
