"""Texts line by line: what each line tells, and whether it is right where it stands."""

from aswritten.errors import BadModel, BadText, BadWish
from aswritten.forms_said import said
from aswritten.grammar import MOST_SETS, places, several, whole_sum
from aswritten.models import MOST_SAYINGS, MOST_SOFT, MOST_UNKNOWNS, MOST_VALUES, check_model
from aswritten.scopes import Scope, World
from aswritten.tokens import Cursor
from aswritten.wishes import check_wishes
from aswritten.written import Writer

MOST_ITEMS = 24
FREE_WISHES = ((0, (), 0),)


class Text:
    """What the lines read so far tell: the parts of a model, what is wished, and places, pairs (name, line)."""

    def __init__(self):
        self.unknowns = ()
        self.sayings = ()
        self.soft = ()
        self.wished = ()
        self.places = []
        self._world = World()

    def model_told(self):
        """Return the model told."""
        return (self.unknowns, self.sayings, self.soft)

    def read(self, line, number):
        """Read the next line; raise BadText if it is wrong."""
        if line.strip(" ") == "" or line[0] == "#":
            return
        cursor = Cursor(line, number, False)
        if cursor.skip("set"):
            self._read_set(cursor)
        elif cursor.skip("data"):
            self._read_data(cursor)
        elif cursor.skip("unknown"):
            self._read_unknown(cursor)
        elif cursor.skip("wish"):
            self._read_wish(cursor)
        elif cursor.skip("soft"):
            self._read_said(cursor, cursor.digits())
        else:
            self._read_said(cursor, None)

    def _read_set(self, cursor):
        # a SET behind its first word; and so on
        word = self._new_word(cursor)
        cursor.expect(":")
        items = []
        while cursor.token() != "":
            items.append(cursor.word())
        cursor.require(1 <= len(items) <= MOST_ITEMS and len(set(items)) == len(items))
        cursor.require(not any([item == word or self._world.is_told(item) for item in items]))
        self._world.tell_set(word, tuple(items))

    def _new_word(self, cursor):
        word = cursor.word()
        cursor.require(self._world.is_free(word))
        return word

    def _read_data(self, cursor):
        word = self._new_word(cursor)
        sets = self._sets(cursor)
        cursor.expect(":")
        numbers = []
        while cursor.token() != "":
            numbers.append(cursor.signed())
        tuples = self._world.tuples(sets)
        cursor.require(len(numbers) == len(tuples))
        self._world.tell(word)
        self._world.data[word] = sets
        self._world.numbers.update({(word, items): n for items, n in zip(tuples, numbers)})

    def _sets(self, cursor):
        cursor.expect("(")
        names = several(cursor, lambda one: one.word())
        cursor.expect(")")
        cursor.require(len(names) <= MOST_SETS and all([name in self._world.sets for name in names]))
        return names

    def _read_unknown(self, cursor):
        word = self._new_word(cursor)
        sets = self._sets(cursor) if cursor.token() == "(" else ()
        cursor.expect(":")
        domain = _domain(cursor)
        cursor.expect("")
        self._world.tell(word)
        self._world.unknowns[word] = sets
        names = [".".join([word, *items]) for items in self._world.tuples(sets)]
        cursor.require(len(names) <= MOST_UNKNOWNS)
        self.unknowns = self.unknowns + tuple([(name, domain) for name in names])
        self._put(cursor, names)

    def _read_said(self, cursor, price):
        # from its own word on; price is None where it is not soft
        word = self._new_word(cursor)
        scope = Scope(self._world, word)
        told = places(cursor, scope) if cursor.skip("for") else ((), ())
        cursor.expect(":")
        form = said(cursor, scope)
        cursor.expect("")
        self._world.tell(word)
        writer = Writer(self._world, cursor.number)
        tuples = writer.tuples(told, {})
        cursor.require(len(tuples) <= (MOST_SAYINGS if price is None else MOST_SOFT))
        items = []
        for at in tuples:
            name = ".".join([word] + [at[variable][0] for variable, place in told[0]])
            items.append((name, writer.saying(form, at)) + (() if price is None else (price,)))
        if price is None:
            self.sayings = self.sayings + tuple(items)
        else:
            self.soft = self.soft + tuple(items)
        self._put(cursor, [item[0] for item in items])

    def _put(self, cursor, names):
        # the names of what the line has told; the model has to be right with it
        self.places.extend([(name, cursor.number) for name in names])
        if names != []:
            try:
                check_model(self.model_told())
            except BadModel:
                raise BadText(cursor.number) from None

    def _read_wish(self, cursor):
        whole = whole_sum(cursor, Scope(self._world, ""), 0)
        prices = 1 if cursor.skip(",") else 0
        if prices == 1:
            cursor.expect("prices")
        cursor.expect("")
        constant, terms = Writer(self._world, cursor.number).gathered([(1, whole)], {})
        self.wished = self.wished + ((constant, tuple(sorted(terms)), prices),)
        try:
            check_wishes(self.model_told(), self.wished)
        except BadWish:
            raise BadText(cursor.number) from None


def _domain(cursor):
    if cursor.skip("{"):
        values = several(cursor, lambda one: one.signed())
        cursor.expect("}")
        return values
    least = cursor.signed()
    cursor.expect("..")
    greatest = cursor.signed()
    cursor.require(0 <= greatest - least < MOST_VALUES)
    return tuple(range(least, greatest + 1))


def read_text(text):
    """Return the Text that has read all lines; raise BadText with the number of the first wrong one."""
    told = Text()
    lines = text.split("\n")
    for k, line in enumerate(lines):
        told.read(line, k + 1)
    if told.unknowns == ():
        raise BadText(len(lines))
    if told.wished == ():
        told.wished = FREE_WISHES
    return told
