"""The judge: replays papers without searching, and tells whether they are taken for what is asked."""

from aswritten.books import Book
from aswritten.errors import UnknownName
from aswritten.forgeries import forgery
from aswritten.forms import ascends, is_tuple
from aswritten.models import keeps
from aswritten.papers import is_head
from aswritten.rows import row_clashes
from aswritten.steps import Reading, kept_steps, marks_of, numbers_in
from aswritten.turns import keeps_wish
from aswritten.wishes import worths

NO_HEAD = ((), (), (), ())
# the letters that the last row may have; T for "best" and "unbeaten" hangs on the exchanges of the head
LET = {"none": "ST", "row": "S", "always": "", "best": "BNS", "unbeaten": "NS"}


def judge(model, asked, value):
    """Tell whether any value is a paper that is taken for what is asked."""
    return first_fault(model, asked, value) is None


def first_fault(model, asked, value):
    """Return None for a paper that is taken, -1 without a right head and a tuple, or the number of the faulty step."""
    return _fault_in(Book(model), asked, value)


def _fault_in(book, asked, value):
    if not is_tuple(value, 2, 2) or type(value[1]) is not tuple or not is_head(book.source, value[0]):
        return -1
    head, steps = value
    reading = Reading(book, head)
    for number, step in enumerate(steps):
        if not reading.take(step):
            return number
    return None if steps != () and _is_taken(book.source, asked, reading) else len(steps)


def is_plainly_taken(book, asked, value):
    """Tell whether any value is a paper with the head ((), (), (), ()) that is taken in the model of the book."""
    return is_tuple(value, 2, 2) and value[0] == NO_HEAD and _fault_in(book, asked, value) is None


def _is_taken(model, asked, reading):
    if not _are_let(model, asked, reading):
        return False
    if asked[0] in ("row", "always"):
        return reading.rows[-1] == asked[1]
    if not row_clashes(reading.rows[-1]):
        return False
    return asked[0] == "none" or _is_head_for(model, asked, reading.head)


def _are_let(model, asked, reading):
    word = asked[0]
    exchanges, wishes = reading.head[1:3]
    for letter in reading.marks():
        if letter == "T" and word in ("best", "unbeaten"):
            if not all([keeps_wish(model, wish, exchange) for wish in wishes for exchange in exchanges]):
                return False
        elif letter not in LET[word]:
            return False
    return True


def _is_head_for(model, asked, head):
    word, wishes, told = asked
    tolds = (told,) if word == "best" else told
    fillings = head[3]
    if head[2] != wishes or not all([keeps(model, filling) for filling in fillings]):
        return False
    if tuple([worths(model, wishes, filling) for filling in fillings]) != tolds:
        return False
    # what is told may be anything, and True is no 1
    if not all([type(worth) is int for worths_told in tolds for worth in worths_told]):
        return False
    return ascends(tolds) and not any([_beats(one, other) for one in tolds for other in tolds])


def _beats(one, other):
    return one != other and all([a <= b for a, b in zip(one, other)])


def rows_of(model, asked, paper):
    """Return the tuple of the pairs (row, marks) of the steps of a paper that is taken."""
    reading = _read(model, paper)
    return tuple([(row, marks_of(bits)) for row, bits in zip(reading.rows, reading.bits)])


def _read(model, paper):
    head, steps = paper
    reading = Reading(Book(model), head)
    for step in steps:
        reading.take(step)
    return reading


def trimmed(model, asked, paper):
    """Return the paper, which is taken, without the steps that its last step does not use."""
    head, steps = paper
    reading = _read(model, paper)
    name_steps = {n: number for number, n in reading.names_at.items()}
    used = []
    for number, step in enumerate(steps):
        signs = [side[0] for side, c in reading.rows[number][0]]
        if step[0] == "beside":
            signs.extend(step[2])
        names = [name_steps[sign[1]] for sign in signs if sign[0] == "name"]
        used.append(numbers_in(step) + names)
    return (head, kept_steps(steps, used))


def forged(word, mark):
    """Return (model, asked, paper, filling): the paper is taken but for this mark, the filling shows it wrong."""
    told = forgery(word, mark)
    if told is None:
        raise UnknownName((word, mark))
    return told
