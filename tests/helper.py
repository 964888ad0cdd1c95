"""What the tests share: calls written from texts, and answers taken apart."""

from factrulesdesk.bench import answers

CHECK, LOAD, FORM, VALUE, FIT = range(5)

# The document's program P.
GCD = (
    "rule gcd { keep g(N); take g(M); if 0 < N, N <= M; put g(M - N); } "
    "rule done { take g(0); } level g 2;"
)


def as_bytes(text):
    """Give a text's list of bytes; lists are handed through."""
    return list(text.encode("ascii")) if isinstance(text, str) else list(text)


def call(number, *texts):
    """Write one call as the interface tells."""
    numbers = [number]
    for text in texts:
        row = as_bytes(text)
        numbers += [len(row)] + row
    return numbers


def split(numbers):
    """Take the answers apart by the counts before them."""
    parts = []
    place = 0
    while place < len(numbers):
        end = place + 1 + numbers[place]
        parts.append(numbers[place + 1:end])
        if len(parts[-1]) != numbers[place]:
            raise AssertionError("an answer is shorter than its count")
        place = end
    return parts


def ask(*calls):
    """Make the calls on one object, and give the list of their answers."""
    parts = split(answers([number for one in calls for number in one]))
    if len(parts) != len(calls):
        raise AssertionError("not as many answers as calls")
    return parts


def check(text):
    return ask(call(CHECK, text))[0]


def load(text):
    return ask(call(LOAD, text))[0]


def form(text):
    """Load the text, and give its form as a text."""
    loaded, shown = ask(call(LOAD, text), call(FORM))
    if loaded[0] != 0 or shown[0] != 0:
        raise AssertionError(f"{text!r} was not loaded: {loaded} {check(text)}")
    return bytes(shown[1:]).decode("ascii")


def value(text):
    return ask(call(VALUE, text))[0]


def fit(pattern, matched):
    return ask(call(FIT, pattern, matched))[0]


def binding(*pairs):
    """Write the answer of a fit that gives these values to these unknowns."""
    numbers = [0, len(pairs)]
    for name, given in pairs:
        numbers += [len(name)] + as_bytes(name) + [len(given)] + as_bytes(given)
    return numbers


def faults(*pairs):
    """Write the answer of a check that finds these pairs of a place and a number."""
    return [0] + [number for pair in pairs for number in pair]
