"""The steps of papers: whether each is as told, which rows and marks they give, and which steps they use."""

from aswritten.forms import is_number, is_tuple
from aswritten.notation import with_side
from aswritten.papers import beside_row, better_row, turned_row
from aswritten.reckoning import clashes_last, divided, summed, trimmed_row, weakened
from aswritten.rows import denial, is_row, is_side_form
from aswritten.signs import is_sign
from aswritten.smalls import small_saying

GREATEST = 10 ** 60 - 1
GREATEST_NAME = 10 ** 30 - 1
LETTERS = "BNST"
# how many items a step of each sort has
ITEMS = {"given": 2, "told": 3, "side": 2, "add": 2, "divide": 3, "trim": 2, "weaken": 3, "led": 3, "name": 3,
         "back": 2, "better": 1, "beside": 3, "turned": 2}
# the bits of the marks of a row
BETTER = 1
BESIDE = 2
SAID = 4
TURNED = 8


class Reading:
    """The steps of a paper with a right head that were read so far.

    named has under the number of each name its row, names_at under the number of its step the name's number.
    """

    def __init__(self, book, head):
        self.book = book
        self.head = head
        self.signs = book.signs()
        self.rows = []
        self.bits = []
        self.named = {}
        self.names_at = {}

    def take(self, step):
        """Read any value as the next step and return True, or return False if it is none that is as told."""
        if not is_tuple(step, 1, 3) or type(step[0]) is not str or len(step) != ITEMS.get(step[0], 0):
            return False
        read = _READS[step[0]]
        told = read(self, step)
        if told is None or not _has_short_numbers(told[0]):
            return False
        self.rows.append(told[0])
        self.bits.append(told[1])
        return True

    def is_known(self, sign):
        """Tell whether any value is a sign of the model or a name that was given."""
        return is_sign(self.signs, sign) and (sign[0] != "name" or sign[1] in self.named)

    def is_step(self, value):
        """Tell whether any value is the number of a step that was read."""
        return is_number(value, 0, len(self.rows) - 1)

    def marks(self):
        """Return the marks of the last row."""
        return marks_of(self.bits[-1])


def marks_of(bits):
    """Return the marks as a string."""
    return "".join([letter for k, letter in enumerate(LETTERS) if bits >> k & 1])


def _has_short_numbers(row):
    parts, least = row
    return least <= GREATEST and all([c <= GREATEST for side, c in parts])


def _is_factor(value):
    return is_number(value, 1, GREATEST)


def _given(reading, step):
    row = reading.book.cited(step[1])
    return None if row is None else (row, SAID if step[1][0] == "tells" else 0)


def _told(reading, step):
    s, row = step[1:]
    if not is_row(row, reading.is_known):
        return None
    small = small_saying(reading.book, s)
    return (row, SAID) if small is not None and small.lets(row) else None


def _side(reading, step):
    side = step[1]
    if not is_side_form(side) or not reading.is_known(side[0]):
        return None
    return (((side, 1),), 0), 0


def _added(reading, step):
    pairs = step[1]
    if type(pairs) is not tuple or pairs == () or not all([_is_times(reading, pair) for pair in pairs]):
        return None
    return summed(reading.rows, pairs), _all_bits(reading, [number for number, m in pairs])


def _is_times(reading, value):
    return is_tuple(value, 2, 2) and reading.is_step(value[0]) and _is_factor(value[1])


def _all_bits(reading, numbers):
    bits = 0
    for number in numbers:
        bits = bits | reading.bits[number]
    return bits


def _divided(reading, step):
    number, d = step[1:]
    if not reading.is_step(number) or not _is_factor(d):
        return None
    return divided(reading.rows[number], d), reading.bits[number]


def _trimmed(reading, step):
    if not reading.is_step(step[1]):
        return None
    return trimmed_row(reading.rows[step[1]]), reading.bits[step[1]]


def _weakened(reading, step):
    number, sign = step[1:]
    if not reading.is_step(number) or not reading.is_known(sign):
        return None
    row = weakened(reading.rows[number], sign)
    return None if row is None else (row, reading.bits[number])


def _led(reading, step):
    row, numbers = step[1:]
    if not is_row(row, reading.is_known) or type(numbers) is not tuple:
        return None
    if not all([reading.is_step(number) for number in numbers]):
        return None
    looked_at = [denial(row)] + [reading.rows[number] for number in numbers]
    return (row, _all_bits(reading, numbers)) if clashes_last(looked_at) else None


def _named(reading, step):
    n, row = step[1:]
    if not is_number(n, 0, GREATEST_NAME) or n in reading.named or not is_row(row, reading.is_known):
        return None
    reading.named[n] = row
    reading.names_at[len(reading.rows)] = n
    return with_side(row, (("name", n), False)), 0


def _back(reading, step):
    if not reading.is_step(step[1]) or step[1] not in reading.names_at:
        return None
    n = reading.names_at[step[1]]
    return with_side(denial(reading.named[n]), (("name", n), True)), 0


def _better(reading, step):
    wishes, fillings = reading.head[2:]
    if len(fillings) != 1 or wishes == ():
        return None
    return better_row(reading.book.source, wishes, fillings[0]), BETTER


def _beside(reading, step):
    i, names = step[1:]
    wishes, fillings = reading.head[2:]
    if wishes == () or not is_number(i, 0, len(fillings) - 1) or not is_tuple(names, len(wishes), len(wishes)):
        return None
    for wish, name in zip(wishes, names):
        if not reading.is_known(name) or name[0] != "name":
            return None
        if reading.named[name[1]] != beside_row(reading.book.source, wish, fillings[i]):
            return None
    return (tuple([((name, True), 1) for name in sorted(set(names))]), 1), BESIDE


def _turned(reading, step):
    order, exchanges = reading.head[:2]
    word = step[1]
    if type(word) is not tuple or word == () or not all([is_number(k, 0, len(exchanges) - 1) for k in word]):
        return None
    return turned_row(reading.book.source, order, [exchanges[k] for k in word]), TURNED


_READS = {
    "given": _given,
    "told": _told,
    "side": _side,
    "add": _added,
    "divide": _divided,
    "trim": _trimmed,
    "weaken": _weakened,
    "led": _led,
    "name": _named,
    "back": _back,
    "better": _better,
    "beside": _beside,
    "turned": _turned,
}


def numbers_in(step):
    """Return the numbers of the steps that stand in a step."""
    if step[0] == "add":
        return [number for number, m in step[1]]
    if step[0] == "led":
        return list(step[2])
    return [step[1]] if step[0] in ("divide", "trim", "weaken", "back") else []


def renumbered(step, anew):
    """Return the step with the numbers of steps that the dict anew has for them."""
    if step[0] == "add":
        return ("add", tuple([(anew[number], m) for number, m in step[1]]))
    if step[0] == "led":
        return ("led", step[1], tuple([anew[number] for number in step[2]]))
    return (step[0], anew[step[1]]) + step[2:] if step[0] in ("divide", "trim", "weaken", "back") else step


def kept_steps(steps, used):
    """Return the steps that the last one uses, numbered anew; used has for each step the numbers that it uses."""
    kept = {len(steps) - 1: True}
    for number in reversed(range(len(steps))):
        if number in kept:
            kept.update({other: True for other in used[number]})
    anew = {number: place for place, number in enumerate(sorted(kept))}
    return tuple([renumbered(steps[number], anew) for number in sorted(kept)])
