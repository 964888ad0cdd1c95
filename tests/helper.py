"""What the tests share: calls written from texts, and answers taken apart."""

from factrulesdesk.bench import answers

CHECK, LOAD, FORM, VALUE, FIT, WORK, TEST, USE, RULE, LEVEL = range(10)

# The document's program P.
GCD = (
    "rule gcd { keep g(N); take g(M); if 0 < N, N <= M; put g(M - N); } "
    "rule done { take g(0); } level g 2;"
)


def as_bytes(text):
    """Give a text's list of bytes; lists are handed through."""
    return list(text.encode("ascii")) if isinstance(text, str) else list(text)


def call(number, *parts):
    """Write one call as the interface tells; a part is a whole number, or a text."""
    numbers = [number]
    for part in parts:
        if isinstance(part, int):
            numbers.append(part)
        else:
            row = as_bytes(part)
            numbers += [len(row)] + row
    return numbers


def split(numbers):
    """Take the answers apart by the counts before them."""
    parts = []
    place = 0
    while place < len(numbers):
        end = place + 1 + numbers[place]
        parts.append(numbers[place + 1:end])
        if len(parts[-1]) != numbers[place]:
            raise AssertionError("an answer is shorter than its count")
        place = end
    return parts


def ask(*calls):
    """Make the calls on one object, and give the list of their answers."""
    parts = split(answers([number for one in calls for number in one]))
    if len(parts) != len(calls):
        raise AssertionError("not as many answers as calls")
    return parts


def check(text):
    return ask(call(CHECK, text))[0]


def load(text):
    return ask(call(LOAD, text))[0]


def form(text):
    """Load the text, and give its form as a text."""
    loaded, shown = ask(call(LOAD, text), call(FORM))
    if loaded[0] != 0 or shown[0] != 0:
        raise AssertionError(f"{text!r} was not loaded: {loaded} {check(text)}")
    return bytes(shown[1:]).decode("ascii")


def value(text):
    return ask(call(VALUE, text))[0]


def fit(pattern, matched):
    return ask(call(FIT, pattern, matched))[0]


def work(pattern, matched, expression):
    return ask(call(WORK, pattern, matched, expression))[0]


def holds(pattern, matched, test):
    """Give what the call test answers."""
    return ask(call(TEST, pattern, matched, test))[0]


def on_loaded(program, *calls):
    """Load the program, and give the answers of the calls that come behind."""
    told = ask(call(LOAD, program), *calls)
    if told[0][0] != 0:
        raise AssertionError(f"{program!r} was not loaded: {told[0]} {check(program)}")
    return told[1:]


def use(program, number, facts):
    return on_loaded(program, call(USE, number, facts))[0]


def rule(program, number):
    return on_loaded(program, call(RULE, number))[0]


def level(program, word):
    return on_loaded(program, call(LEVEL, word))[0]


def worth(written):
    """Write the answer of a work that comes to a value of this form."""
    return [0] + as_bytes(written)


def puts(*written):
    """Write the answer of a use that puts values of these forms."""
    numbers = [0, len(written)]
    for one in written:
        numbers += [len(one)] + as_bytes(one)
    return numbers


def binding(*pairs):
    """Write the answer of a fit that gives these values to these unknowns."""
    numbers = [0, len(pairs)]
    for name, given in pairs:
        numbers += [len(name)] + as_bytes(name) + [len(given)] + as_bytes(given)
    return numbers


def faults(*pairs):
    """Write the answer of a check that finds these pairs of a place and a number."""
    return [0] + [number for pair in pairs for number in pair]
