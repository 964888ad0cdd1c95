"""The errors of the package: one for a text's first fault, and one for each refusal."""


class TextFault(ValueError):
    """What is wrong with a text's tokens or their order; it hides all that stands behind it."""

    def __init__(self, place, number):
        ValueError.__init__(self, "a text has a fault")
        self.place = place
        self.number = number


class TextTooLong(ValueError):
    """A text has more bytes than a call takes."""


class FaultyProgram(ValueError):
    """A text that is to be held as a program has a fault."""


class NothingHeld(ValueError):
    """A call asks for the held program, and there is none."""


class NoValue(ValueError):
    """A text is no value's text."""


class NoPattern(ValueError):
    """A text is no pattern's text."""


class NoExpression(ValueError):
    """A text is no expression's text."""


class NoTest(ValueError):
    """A text is no test's text."""


class NoRule(ValueError):
    """The held program has no rule of a number."""


class NoFacts(ValueError):
    """A text is not one of facts with commas between neighbours."""


class WrongFactCount(ValueError):
    """There are not as many facts as a rule has heads."""


class NoWord(ValueError):
    """A text is not one word."""


class UnknownCall(ValueError):
    """A list of calls names a call that is not there."""
