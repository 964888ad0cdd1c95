"""Whole lists of calls and their answers."""

from factrulesdesk.desk import Desk, counted
from factrulesdesk.refusals import FaultyProgram, NoPattern, NothingHeld, NoValue, TextTooLong, UnknownCall

CHECK = 0
LOAD = 1
FORM = 2
VALUE = 3
FIT = 4

# How many rows each call has, by its number.
ROW_COUNTS = {0: 1, 1: 1, 2: 0, 3: 1, 4: 2}


def rows_from(calls, place, how_many):
    """Give copies of the rows that begin at the place."""
    rows = []
    while len(rows) < how_many:
        start = place + 1
        row = calls[start:start + calls[place]]
        rows.append(row)
        place = start + len(row)
    return rows


def call_on(desk, number, rows):
    if number == CHECK:
        return desk.check(rows[0])
    if number == LOAD:
        return desk.load(rows[0])
    if number == FORM:
        return desk.form()
    if number == VALUE:
        return desk.value(rows[0])
    if number == FIT:
        return desk.fit(rows[0], rows[1])
    raise UnknownCall("no call has this number")


def answer_of(desk, number, rows):
    """Give the call's answer; a refusal is its number alone."""
    try:
        return call_on(desk, number, rows)
    except TextTooLong:
        return [-1]
    except FaultyProgram:
        return [-2]
    except NothingHeld:
        return [-3]
    except NoValue:
        return [-4]
    except NoPattern:
        return [-5]


def answers(calls):
    """Make the calls one behind another on one new desk, and give their answers, each behind its length."""
    desk = Desk()
    given = []
    place = 0
    while place < len(calls):
        number = calls[place]
        rows = rows_from(calls, place + 1, ROW_COUNTS.get(number, 0))
        given.extend(counted(answer_of(desk, number, rows)))
        place += 1 + sum([1 + len(row) for row in rows])
    return given
