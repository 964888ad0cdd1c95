"""What expressions are worth with a binding, and whether tests hold.

Where an expression is worth nothing, its worth is None.
"""

from factrulesdesk.matching import same_values
from factrulesdesk.shapes import Number, Signed, Term, Unknown, is_small_enough

GREATEST_AMOUNT = 999999999

PLUS = (43,)
MINUS = (45,)
TIMES = (42,)
DIVIDED = (47,)

EQUAL = (61,)
UNEQUAL = (60, 62)
BELOW = (60,)


def worth_of(expression, binding):
    """Give the value that the expression is worth with the binding, or None."""
    if isinstance(expression, Number):
        return expression
    if isinstance(expression, Unknown):
        return binding.get(expression.name)
    if isinstance(expression, Term):
        return term_worth(expression, binding)
    if isinstance(expression, Signed):
        return signed_worth(expression, binding)
    return chain_worth(expression, binding)


def term_worth(expression, binding):
    worths = worths_of(expression.arguments, binding)
    if worths is None:
        return None
    term = Term(expression.word, worths)
    return term if is_small_enough(term) else None


def worths_of(expressions, binding):
    """Give the worths of all the expressions, or None if one of them is worth nothing."""
    worths = [worth_of(expression, binding) for expression in expressions]
    return None if any([worth is None for worth in worths]) else worths


def amount_of_worth(expression, binding):
    """Give the amount of the number that the expression is worth, or None if it is worth no number."""
    worth = worth_of(expression, binding)
    return worth.amount if isinstance(worth, Number) else None


def signed_worth(signed, binding):
    amount = amount_of_worth(signed.operand, binding)
    return None if amount is None else Number(-amount)


def chain_worth(chain, binding):
    amount = amount_of_worth(chain.first, binding)
    for sign, operand in chain.further:
        second = amount_of_worth(operand, binding)
        if amount is None or second is None:
            return None
        amount = in_range(combined(sign, amount, second))
    return None if amount is None else Number(amount)


def combined(sign, first, second):
    """Give what comes of two amounts, in range or not; None where 0 would divide."""
    if sign == PLUS:
        return first + second
    if sign == MINUS:
        return first - second
    if sign == TIMES:
        return first * second
    if second == 0:
        return None
    # Python's // rounds as the document asks: never up, below 0 either.
    quotient = first // second
    return quotient if sign == DIVIDED else first - second * quotient


def in_range(amount):
    """Give the amount, or None if it is none of a value's."""
    if amount is None or abs(amount) > GREATEST_AMOUNT:
        return None
    return amount


def holds(test, binding):
    """Tell whether the test holds with the binding."""
    left = worth_of(test.left, binding)
    right = worth_of(test.right, binding)
    if left is None or right is None:
        return False
    if test.sign == EQUAL:
        return same_values(left, right)
    if test.sign == UNEQUAL:
        return not same_values(left, right)
    return are_in_order(left, test.sign, right)


def are_in_order(left, sign, right):
    if not isinstance(left, Number) or not isinstance(right, Number):
        return False
    return left.amount < right.amount if sign == BELOW else left.amount <= right.amount
