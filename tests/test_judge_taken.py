"""[16] to [18]: when a paper is taken, the table of marks, rows_of, trimmed and forged."""

import random
import unittest

from aswritten.errors import UnknownName
from aswritten.judge import first_fault, forged, judge, rows_of, trimmed
from aswritten.models import check_model, keeps
from aswritten.rows import row_holds
from aswritten.turns import keeps_wish
from aswritten.wishes import worths
from tests.chance import WORDS, model_by
from tests.notes import paper, row, total
from tests.samples import ODD_VALUES, all_tuples

NO_HEAD = ((), (), (), ())
X = (("x", (0, 1)),)
A, B = ("a", ("least", (("x", 1),), 1)), ("b", ("least", (("x", -1),), 0))
BOTH = (("given", ("tells", "a", 0)), ("given", ("tells", "b", 0)), ("add", ((0, 1), (1, 1))))


class Example(unittest.TestCase):
    def test_the_example_of_the_document(self):
        model = (X, (A, B), ())
        told = (((), (), (), ()), (("given", ("tells", "a", 0)), ("given", ("tells", "b", 0)),
                                   ("add", ((0, 1), (1, 1)))))
        self.assertIs(judge(model, ("none",), told), True)
        self.assertIsNone(first_fault(model, ("none",), told))
        self.assertEqual(rows_of(model, ("none",), told), (
            (((((("from", "x", 1), True), 1),), 1), "S"), (((((("from", "x", 1), False), 1),), 1), "S"),
            (((), 1), "S")))
        alone = (X, (A,), ())
        first = (((), (), (), ()), (("given", ("tells", "a", 0)),))
        asked = ((((("from", "x", 1), True), 1),), 1)
        self.assertIs(judge(alone, ("row", asked), first), True)
        self.assertEqual(first_fault(alone, ("always", asked), first), 1)


class Clashes(unittest.TestCase):
    def test_the_last_row_has_to_clash(self):
        model = (X, (A, B), ())
        self.assertEqual(first_fault(model, ("none",), paper(*BOTH[:2])), 2)
        self.assertEqual(first_fault(model, ("none",), paper(*BOTH, BOTH[0])), 4)
        self.assertIsNone(first_fault(model, ("none",), paper(*BOTH, BOTH[0], BOTH[2])))
        self.assertIs(judge(model=model, asked=("none",), value=paper(*BOTH)), True)
        # it need not be without parts
        wide = ((("x", (0, 1, 2)),), (("a", ("least", (("x", 1),), 3)),), ())
        self.assertIsNone(first_fault(wide, ("none",), paper(BOTH[0])))
        self.assertEqual(rows_of(wide, ("none",), paper(BOTH[0])), ((total("1 from x 1 + 1 from x 2 >= 3"), "S"),))

    def test_the_last_row_has_to_be_the_one_asked(self):
        model = (X, (A, B), ())
        self.assertIsNone(first_fault(model, ("row", row("-> from x 1")), paper(BOTH[0])))
        for other in (row("from x 1 ->"), row("-> is x 1"), total("1 from x 1 >= 0"), total("2 from x 1 >= 1"),
                      ((), 0)):
            self.assertEqual(first_fault(model, ("row", other), paper(BOTH[0])), 1)
        self.assertIsNone(first_fault(model, ("row", ((), 1)), paper(*BOTH)))
        # a clash tells any row, but it is not that row
        self.assertEqual(first_fault(model, ("row", row("-> is x 1")), paper(*BOTH)), 3)


XY = (("x", (0, 1)), ("y", (0, 1)))
CHANGE = (("x", "y", ((0, 0), (1, 1))), ("y", "x", ((0, 0), (1, 1))))
# each wish with the row: it is less than at (0, 0); the second one is not kept by the exchange
FAIR = ((0, (("x", 1), ("y", 1)), 0), total("1 not from x 1 + 1 not from y 1 >= 3"))
UNFAIR = ((0, (("x", 2), ("y", 1)), 0), total("2 not from x 1 + 1 not from y 1 >= 4"))
NEVER = (XY, (("a", ("least", (("x", 1), ("y", 1)), 3)),), ())
OFTEN = (XY, (("a", ("least", (("x", 1), ("y", 1)), 0)),), ())


def marked(letters, wish):
    """A paper whose last row has just these marks; it clashes with B and N, and with S if the saying a never holds."""
    head = (("x", "y"), (CHANGE,), (wish[0],), ((0, 0),))
    steps = [("side", (("is", "x", 0), True))]
    added = [(0, 1)]
    for letter in letters:
        if letter == "B":
            steps.append(("better",))
        if letter == "N":
            many = len(steps)
            steps.extend((("name", 0, wish[1]), ("beside", 0, (("name", 0),)),
                          ("add", ((many, 1), (many + 1, wish[1][1])))))
        if letter == "S":
            steps.append(("given", ("tells", "a", 0)))
        if letter == "T":
            steps.append(("turned", (0,)))
        added.append((len(steps) - 1, 1 if letter == "T" else 1000))
    steps.append(("add", tuple(added)))
    return (head, tuple(steps))


ALL_LETTERS = ["".join(letter for k, letter in enumerate("BNST") if number >> k & 1) for number in range(16)]


class Table(unittest.TestCase):
    def check(self, model, asked, value, is_taken):
        told = first_fault(model, asked, value)
        self.assertEqual(told, None if is_taken else len(value[1]), (asked, value))
        self.assertIs(judge(model, asked, value), is_taken)

    def test_marks_of_the_last_row(self):
        for letters in ALL_LETTERS:
            value = marked(letters, FAIR)
            self.assertEqual(rows_of(OFTEN, ("none",), value)[-1][1], letters)

    def test_none(self):
        for letters in ALL_LETTERS:
            clashes = letters not in ("", "T")
            self.check(NEVER, ("none",), marked(letters, FAIR), clashes and "B" not in letters and "N" not in letters)
            self.check(NEVER, ("none",), marked(letters, UNFAIR), clashes and "B" not in letters and "N" not in letters)

    def test_row_and_always(self):
        for letters in ALL_LETTERS:
            for model in (NEVER, OFTEN):
                value = marked(letters, FAIR)
                last = rows_of(model, ("none",), value)[-1][0]
                self.check(model, ("row", last), value, letters in ("", "S"))
                self.check(model, ("always", last), value, letters == "")

    def test_best_and_unbeaten(self):
        for letters in ALL_LETTERS:
            clashes = "B" in letters or "N" in letters
            for wish in (FAIR, UNFAIR):
                right = clashes and (wish == FAIR or "T" not in letters)
                value = marked(letters, wish)
                self.check(OFTEN, ("best", (wish[0],), (0,)), value, right)
                self.check(OFTEN, ("unbeaten", (wish[0],), ((0,),)), value, right and "B" not in letters)

    def test_only_the_marks_of_the_last_row_count(self):
        head, steps = marked("B", FAIR)
        for letters in ("B", "N"):
            head, steps = marked(letters, FAIR)
            more = steps + (("given", ("tells", "a", 0)),)
            self.check(NEVER, ("none",), (head, more), True)

    def test_every_exchange_of_the_head_has_to_keep_each_wish(self):
        # also one that no word has
        loose = (("x", "x", ((0, 0), (1, 1))), ("y", "y", ((0, 1), (1, 0))))
        model = (XY, (), ())
        for exchanges, right in (((CHANGE,), True), ((CHANGE, ()), True), ((CHANGE, loose), False)):
            head, steps = marked("BT", FAIR)
            value = ((("x", "y"), exchanges) + head[2:], steps)
            self.check(model, ("best", (FAIR[0],), (0,)), value, right)
        both = (FAIR[0], UNFAIR[0])
        value = ((("x", "y"), (CHANGE,), both, ((0, 0),)), (("turned", (0,)), ("better",),
                                                            ("add", ((0, 1), (1, 1000)))))
        self.check(model, ("best", both, (0, 0)), value, False)
        value = (value[0], (("turned", (0,)), ("better",)))
        self.check(model, ("best", both, (0, 0)), value, True)


LOW = (0, (("x", 1),), 0)


class Heads(unittest.TestCase):
    model = (XY, (("a", ("least", (("x", 1), ("y", 1)), 1)),), ())
    # x + y is at least 1; the wish y - x is best at (1, 0)
    best = ((0, (("x", -1), ("y", 1)), 0),)
    steps = (("better",),)

    def check(self, asked, head, right, steps=None):
        steps = self.steps if steps is None else steps
        self.assertEqual(first_fault(self.model, asked, (head, steps)), None if right else len(steps))

    def test_best(self):
        head = ((), (), self.best, ((1, 0),))
        self.check(("best", self.best, (-1,)), head, True)
        for told in ((0,), (-2,), (), (-1, 0), (True,), None, -1):
            self.check(("best", self.best, told), head, False)

    def test_best_with_other_wishes(self):
        head = ((), (), self.best, ((1, 0),))
        for wishes in (((0, (("x", -1), ("y", 1)), 1),), self.best * 2, ((0, (("x", -1),), 0),)):
            self.check(("best", wishes, (-1,) * len(wishes)), head, False)
        self.check(("best", self.best, (-1,)), ((), (), self.best * 2, ((1, 0),)), False)

    def test_best_with_a_filling_that_does_not_keep_the_model(self):
        wishes = ((0, (("x", 1), ("y", 1)), 0),)
        self.check(("best", wishes, (0,)), ((), (), wishes, ((0, 0),)), False)
        steps = (("better",), ("given", ("tells", "a", 0)), ("add", ((0, 1), (1, 1))))
        self.check(("best", wishes, (1,)), ((), (), wishes, ((0, 1),)), True, steps)
        self.check(("best", wishes, (1,)), ((), (), wishes, ((1, 0),)), True, steps)

    def test_best_has_one_filling(self):
        less = total("1 from x 1 + 1 not from y 1 >= 3")
        steps = (("name", 0, less), ("beside", 0, (("name", 0),)), ("add", ((0, 1), (1, 3))))
        self.check(("best", self.best, (-1,)), ((), (), self.best, ((1, 0),)), True, steps)
        self.check(("best", self.best, (-1,)), ((), (), self.best, ((1, 0), (1, 0))), False, steps)
        clash = (("given", ("tells", "b", 0)),)
        model = (XY, self.model[1] + (("b", ("least", (("x", 1),), 2)),), ())
        self.assertEqual(first_fault(model, ("best", self.best, (-1,)), (((), (), self.best, ()), clash)), 1)
        self.assertIsNone(first_fault(model, ("none",), (((), (), self.best, ()), clash)))

    # for two wishes the worths of (1, 0) and (0, 1) do not beat one another
    two = ((0, (("x", 1),), 0), (0, (("y", 1),), 0))

    def unbeaten(self, fillings, tolds, right, wishes=None, head_wishes=None):
        wishes = self.two if wishes is None else wishes
        head = ((), (), wishes if head_wishes is None else head_wishes, fillings)
        self.check(("unbeaten", wishes, tolds), head, right, self.clash_of(fillings, head[2]))

    def clash_of(self, fillings, wishes):
        """Steps that clash for all fillings that are kept: of each one, one of both wishes has to be better."""
        steps = []
        names = {}
        for filling in fillings:
            for wish in wishes:
                x = wish[1][0][0]
                v = filling[0 if x == "x" else 1]
                if (x, v) not in names:
                    names[(x, v)] = len(steps)
                    steps.append(("name", len(names), total(f"1 not from {x} 1 >= {2 - v}")))
        named = list(range(len(steps)))
        count = {key: 1 + place for place, key in enumerate(names)}
        numbers = list(named)
        for i, filling in enumerate(fillings):
            told = tuple(("name", count[(wish[1][0][0], filling[0 if wish[1][0][0] == "x" else 1])]) for wish in wishes)
            numbers.append(len(steps))
            steps.append(("beside", i, told))
        numbers += named + [len(steps)]
        steps.append(("given", ("tells", "a", 0)))
        # as many of them as it takes till one clashes
        for many in range(1, len(numbers) + 1):
            told = tuple(steps) + (("led", ((), 1), tuple(numbers[:many])),)
            if first_fault(self.model, ("none",), (((), (), wishes, fillings), told)) == len(told):
                return told
        raise AssertionError("nothing clashes")

    def test_unbeaten(self):
        self.unbeaten(((0, 1), (1, 0)), ((0, 1), (1, 0)), True)
        # the first fault is at the end where the head is wrong
        self.unbeaten(((1, 0), (0, 1)), ((1, 0), (0, 1)), False)
        self.unbeaten(((0, 1), (1, 0)), ((1, 0), (0, 1)), False)
        self.unbeaten(((0, 1), (1, 0)), ((0, 1), (1, 1)), False)
        self.unbeaten(((0, 1), (1, 0)), ((0, 1),), False)
        self.unbeaten(((0, 1), (1, 0)), ((0, 1), (1, 0), (1, 0)), False)
        self.unbeaten(((0, 1), (0, 1), (1, 0)), ((0, 1), (0, 1), (1, 0)), False)
        self.unbeaten(((0, 1), (1, 0)), (), False)
        self.unbeaten(((0, 1), (1, 0)), (0, 1), False)
        self.unbeaten(((0, 1), (1, 0)), ((0, True), (1, 0)), False)

    def test_tolds_that_beat_one_another(self):
        # (1, 1) is beaten by both
        self.unbeaten(((0, 1), (1, 0), (1, 1)), ((0, 1), (1, 0), (1, 1)), False)
        wishes = (self.two[0], self.two[0])
        self.unbeaten(((0, 1),), ((0, 0),), True, wishes)
        self.unbeaten(((0, 1), (1, 0)), ((0, 0), (1, 1)), False, wishes)

    def test_unbeaten_with_fillings_that_do_not_keep_the_model(self):
        self.unbeaten(((0, 0),), ((0, 0),), False)
        self.unbeaten(((0, 0), (0, 1), (1, 0)), ((0, 0), (0, 1), (1, 0)), False)

    def test_unbeaten_without_fillings(self):
        model = (XY, (("b", ("least", (("x", 1),), 2)),), ())
        clash = (("given", ("tells", "b", 0)),)
        self.assertIsNone(first_fault(model, ("unbeaten", self.two, ()), (((), (), self.two, ()), clash)))
        self.assertEqual(first_fault(model, ("unbeaten", self.two, ((0, 1),)), (((), (), self.two, ()), clash)), 1)


class Trimmed(unittest.TestCase):
    model = (XY, (("a", ("least", (("x", 1), ("y", 1)), 1)),), ())

    def check(self, asked, value, places, model=None):
        """The steps at these places are kept, and these alone."""
        model = self.model if model is None else model
        self.assertTrue(judge(model, asked, value))
        told = trimmed(model, asked, value)
        anew = {place: number for number, place in enumerate(places)}
        self.assertEqual(told, (value[0], tuple(anew_step(value[1][place], anew) for place in places)))
        self.assertTrue(judge(model, asked, told))
        self.assertEqual(trimmed(model=model, asked=asked, paper=told), told)
        before, after = rows_of(model, asked, value), rows_of(model, asked, told)
        self.assertEqual(after, tuple(before[place] for place in places))

    def test_each_sort_of_step(self):
        one, tells = ("given", ("one", "x", 0)), ("given", ("tells", "a", 0))
        wanted = row("-> from x 1, from y 1")
        self.check(("row", wanted), paper(one, tells), (1,))
        self.check(("row", wanted), paper(tells, one, tells), (2,))
        self.check(("row", wanted), paper(one, ("told", "a", wanted)), (1,))
        self.check(("always", total("1 is x 0 >= 0")), paper(one, ("side", (("is", "x", 0), True))), (1,))
        self.check(("row", wanted), paper(one, tells, ("add", ((1, 2),)), ("divide", 2, 2)), (1, 2, 3))
        self.check(("row", wanted), paper(tells, one, ("add", ((0, 2), (0, 1))), ("trim", 2), ("divide", 3, 3)),
                   (0, 2, 3, 4))
        self.check(("always", total("1 is x 1 >= 0")), paper(tells, one, tells, ("weaken", 1, ("is", "x", 0))), (1, 3))
        self.check(("row", wanted), paper(one, tells, one, ("led", wanted, (1,))), (1, 3))

    def test_a_led_uses_all_of_its_numbers(self):
        one, tells = ("given", ("one", "x", 0)), ("given", ("tells", "a", 0))
        wanted = row("-> from x 1, from y 1")
        self.check(("row", wanted), paper(one, one, tells, ("led", wanted, (1, 2))), (1, 2, 3))
        self.check(("row", wanted), paper(one, one, tells, ("led", wanted, (0, 1, 0, 2))), (0, 1, 2, 3))

    def test_names(self):
        # names 5 and 6 tell the same; that one implies the other uses both "name" steps
        named = row("-> is x 1, is y 1")
        steps = (("name", 4, named), ("name", 5, named), ("given", ("one", "x", 0)), ("name", 6, named), ("back", 3),
                 ("side", (("name", 4), True)), ("add", ((1, 1), (4, 1))), ("add", ((6, 1), (2, 1))))
        told = row("name 5 -> name 6")
        # is x 1, is y 1 >= 1 - name 5; the denial of it is 2 not .. >= 2, with 2 name 6
        self.assertEqual(first_fault(self.model, ("none",), paper(*steps)), 8)
        end = ("led", total("1 is x 0 + 1 is x 1 >= 1"), (2,))
        self.check(("always", end[1]), paper(*steps, end), (2, 8))
        back = ("led", ((), 0), ())
        self.check(("always", ((), 0)), paper(*steps, back), (8,))
        # what has names cancelled still uses those who had them
        both = steps[:5] + (("led", told, (4, 1)), ("side", (("name", 5), True)), ("add", ((5, 1), (6, 1))),
                            ("weaken", 7, ("name", 6)))
        self.assertEqual(first_fault(self.model, ("none",), paper(*both)), 9)
        self.check(("always", ((), 0)), paper(*both), (1, 3, 4, 5, 6, 7, 8))

    def test_a_step_with_a_name_in_its_row_uses_its_name_step(self):
        named = row("-> is x 1, is y 1")
        # a "side" and a "led" name it alone by the sign; in the end it is weakened away
        steps = (("name", 1, named), ("name", 2, named), ("given", ("one", "x", 0)), ("side", (("name", 2), True)),
                 ("weaken", 3, ("name", 2)))
        self.check(("always", ((), 0)), paper(*steps), (1, 3, 4))
        steps = (("name", 1, named), ("name", 2, named), ("led", total("1 name 1 >= 0"), ()),
                 ("weaken", 2, ("name", 1)))
        self.check(("always", ((), 0)), paper(*steps), (0, 2, 3))
        # a name in the row of a "name"
        steps = (("name", 1, named), ("name", 2, named), ("name", 3, row("-> name 2, is y 0")), ("back", 2),
                 ("led", row("name 2 -> name 3"), (3,)), ("side", (("name", 2), True)), ("add", ((4, 1), (5, 1))),
                 ("weaken", 6, ("name", 3)))
        self.check(("always", ((), 0)), paper(*steps), (1, 2, 3, 4, 5, 6, 7))

    def test_beside_better_and_turned(self):
        head = (("x", "y"), (CHANGE,), (FAIR[0],), ((0, 1),))
        less = total("1 not from x 1 + 1 not from y 1 >= 2")
        one = ("given", ("one", "x", 0))
        steps = (one, ("name", 3, less), ("name", 0, less), ("beside", 0, (("name", 0),)), ("given", ("tells", "a", 0)),
                 ("turned", (0,)), ("better",), ("led", ((), 1), (3, 2, 4)))
        self.check(("best", (FAIR[0],), (1,)), (head, steps), (2, 3, 4, 7))
        self.check(("unbeaten", (FAIR[0],), ((1,),)), (head, steps), (2, 3, 4, 7))
        steps = steps[:7] + (("led", ((), 1), (6, 4)),)
        self.check(("best", (FAIR[0],), (1,)), (head, steps), (4, 6, 7))
        steps = steps[:7] + (("add", ((6, 1), (4, 1))), ("add", ((7, 1000), (5, 1))))
        self.check(("best", (FAIR[0],), (1,)), (head, steps), (4, 5, 6, 7, 8))

    def test_the_head_is_kept(self):
        head = (("y", "x"), (CHANGE, ()), (FAIR[0],), ((0, 1), (1, 1)))
        one = ("given", ("one", "x", 0))
        self.check(("always", row("-> is x 0, is x 1")), (head, (one, one, one)), (2,))

    def test_rows_of_has_all_steps(self):
        one, tells = ("given", ("one", "x", 0)), ("given", ("tells", "a", 0))
        value = paper(one, tells, one)
        told = rows_of(model=self.model, asked=("always", row("-> is x 0, is x 1")), paper=value)
        self.assertEqual(told, ((row("-> is x 0, is x 1"), ""), (row("-> from x 1, from y 1"), "S"),
                                (row("-> is x 0, is x 1"), "")))


def anew_step(step, anew):
    if step[0] == "add":
        return ("add", tuple((anew[number], m) for number, m in step[1]))
    if step[0] == "led":
        return ("led", step[1], tuple(anew[number] for number in step[2]))
    if step[0] in ("divide", "trim", "weaken", "back"):
        return (step[0], anew[step[1]]) + step[2:]
    return step


LET = {"none": "ST", "row": "S", "always": "", "best": "BNS", "unbeaten": "NS"}


class Forged(unittest.TestCase):
    def test_every_pair_that_the_table_does_not_let(self):
        for word in LET:
            for mark in "BNST":
                with self.subTest((word, mark)):
                    if mark in LET[word]:
                        with self.assertRaises(UnknownName) as caught:
                            forged(word, mark)
                        self.assertEqual(caught.exception.name, (word, mark))
                    else:
                        self.check(word, mark)

    def check(self, word, mark):
        model, asked, value, filling = forged(word=word, mark=mark)
        self.assertIsNone(check_model(model))
        self.assertEqual(asked[0], word)
        self.assertIs(judge(model, asked, value), False)
        self.assertEqual(first_fault(model, asked, value), len(value[1]))
        last, marks = rows_of(model, asked, value)[-1]
        self.assertIn(mark, marks)
        self.assertTrue(all(letter == mark or letter in LET[word] for letter in marks))
        exchanges, wishes, fillings = value[0][1:]
        if word in ("row", "always"):
            self.assertEqual(asked, (word, last))
            self.assertFalse(row_holds(model, last, filling))
            self.assertTrue(word == "always" or keeps(model, filling))
            return
        self.assertGreater(last[1], sum(c for side, c in last[0]))
        self.assertTrue(keeps(model, filling))
        if word != "none":
            self.assertEqual(asked[1], wishes)
            tolds = (asked[2],) if word == "best" else asked[2]
            self.assertEqual(tuple(worths(model, wishes, one) for one in fillings), tolds)
            self.assertTrue(all(keeps(model, one) for one in fillings))
            self.assertEqual(list(tolds), sorted(set(tolds)))
            self.assertFalse(any(beats(one, other) for one in tolds for other in tolds))
            own = worths(model, wishes, filling)
            if word == "best":
                self.assertLess(own, asked[2])
            else:
                self.assertNotIn(own, tolds)
                self.assertFalse(any(beats(one, own) for one in tolds))
            if mark == "T":
                self.assertFalse(all(keeps_wish(model, wish, one) for wish in wishes for one in exchanges))

    def test_other_pairs(self):
        for word, mark in (("none", "X"), ("some", "B"), ("", ""), ("row", ""), ("always", "BS"), ("B", "none")):
            with self.assertRaises(UnknownName) as caught:
                forged(word, mark)
            self.assertEqual(caught.exception.name, (word, mark))


def beats(one, other):
    return one != other and all(a <= b for a, b in zip(one, other))


class Truth(unittest.TestCase):
    def test_values_of_any_form(self):
        model = (X, (A, B), ())
        for asked in (("none",), ("row", ((), 1)), ("always", ((), 1)), ("best", (LOW,), (0,)),
                      ("unbeaten", (LOW,), ((0,),))):
            for value in ODD_VALUES:
                self.assertIs(judge(model, asked, value), False)
                self.assertIs(type(first_fault(model, asked, value)), int)
                self.assertIs(judge(model, asked, (NO_HEAD, value)), False)
                self.assertIs(judge(model, asked, (NO_HEAD, (value,))), False)

    def test_what_is_taken_by_chance_is_true(self):
        # sums of given rows by chance: the rows hold where their marks say
        chance = random.Random(18)
        for _ in range(150):
            model = model_by(chance, [chance.choice(WORDS)], [chance.choice(WORDS)], (2, 4))
            names = [("one", x, k) for x, domain in model[0] for k in (0, 1)]
            names += [("part", x, v, k) for x, domain in model[0] for v in domain for k in (0, 1)]
            names += [(word, s, k) for word in ("sign", "tells") for s in ("s0", "t0") for k in range(4)]
            steps = tuple(("given", name) for name in names if first_fault(model, ("none",),
                                                                           paper(("given", name))) == 1)
            pairs = tuple((number, chance.randint(1, 3)) for number in sorted(chance.sample(range(len(steps)), 3)))
            steps += (("add", pairs), ("divide", len(steps), 2), ("trim", len(steps) + 1))
            last, marks = rows_of(model, ("none",), paper(*steps))[-1]
            self.assertIs(judge(model, ("row", last), paper(*steps)), True)
            self.assertIs(judge(model, ("always", last), paper(*steps)), marks == "")
            for filling in all_tuples(model[0])[::3]:
                if marks == "" or keeps(model, filling):
                    self.assertTrue(row_holds(model, last, filling))
