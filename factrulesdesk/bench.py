"""Whole lists of calls and their answers."""

from factrulesdesk.desk import Desk, counted
from factrulesdesk.refusals import (
    FaultyProgram, NoExpression, NoFacts, NoPattern, NoRule, NoTest, NothingHeld, NoValue, NoWord, TextTooLong,
    UnknownCall, WrongFactCount,
)

CHECK = 0
LOAD = 1
FORM = 2
VALUE = 3
FIT = 4
WORK = 5
TEST = 6
USE = 7
RULE = 8
LEVEL = 9

# How many whole numbers stand before a call's rows, by its number; the others have none.
WHOLE_COUNTS = {7: 1, 8: 1}

# How many rows each call has, by its number.
ROW_COUNTS = {0: 1, 1: 1, 2: 0, 3: 1, 4: 2, 5: 3, 6: 3, 7: 1, 8: 0, 9: 1}


def rows_from(calls, place, how_many):
    """Give copies of the rows that begin at the place."""
    rows = []
    while len(rows) < how_many:
        start = place + 1
        row = calls[start:start + calls[place]]
        rows.append(row)
        place = start + len(row)
    return rows


def call_on(desk, number, wholes, rows):
    if number == CHECK:
        return desk.check(rows[0])
    if number == LOAD:
        return desk.load(rows[0])
    if number == FORM:
        return desk.form()
    if number == VALUE:
        return desk.value(rows[0])
    if number == FIT:
        return desk.fit(rows[0], rows[1])
    if number == WORK:
        return desk.work(rows[0], rows[1], rows[2])
    if number == TEST:
        return desk.test(rows[0], rows[1], rows[2])
    if number == USE:
        return desk.use(wholes[0], rows[0])
    if number == RULE:
        return desk.rule(wholes[0])
    if number == LEVEL:
        return desk.level(rows[0])
    raise UnknownCall("no call has this number")


def answer_of(desk, number, wholes, rows):
    """Give the call's answer; a refusal is its number alone."""
    try:
        return call_on(desk, number, wholes, rows)
    except TextTooLong:
        return [-1]
    except FaultyProgram:
        return [-2]
    except NothingHeld:
        return [-3]
    except NoValue:
        return [-4]
    except NoPattern:
        return [-5]
    except NoExpression:
        return [-6]
    except NoTest:
        return [-7]
    except NoRule:
        return [-8]
    except NoFacts:
        return [-9]
    except WrongFactCount:
        return [-10]
    except NoWord:
        return [-11]


def answers(calls):
    """Make the calls one behind another on one new desk, and give their answers, each behind its length."""
    desk = Desk()
    given = []
    place = 0
    while place < len(calls):
        number = calls[place]
        place += 1
        wholes = calls[place:place + WHOLE_COUNTS.get(number, 0)]
        place += len(wholes)
        rows = rows_from(calls, place, ROW_COUNTS.get(number, 0))
        place += sum([1 + len(row) for row in rows])
        given.extend(counted(answer_of(desk, number, wholes, rows)))
    return given
