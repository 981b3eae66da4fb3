"""[45] to [47]: texts, line by line."""

import time
import tracemalloc
import unittest

from aswritten.errors import BadText
from aswritten.texts import flatten, told_by
from tests.alarm import Alarm

# two sets that share an item, data, and unknowns with and without sets
HEAD = """set row: a b c
set col: c d
data cost(row): 3 -1 20
data gap(row, col): 1 2 3 4 5 6
unknown x(row): 0..2
unknown y(row, col): {-1, 4}
unknown z: 0..9
unknown w: 0..9"""
MANY = HEAD.count("\n") + 1


def fault(text):
    """The number of the first wrong line, or None."""
    try:
        flatten(text)
    except BadText as error:
        return error.line
    return None


class Lines(unittest.TestCase):
    def right(self, *lines, head=HEAD):
        text = "\n".join((head,) + lines)
        self.assertIsNone(fault(text), lines)
        return flatten(text)

    def wrong(self, *lines, head=HEAD):
        """The last one of the lines is wrong, and no other one."""
        before = "\n".join((head,) + lines[:-1])
        self.assertIsNone(fault(before), lines[:-1])
        number = before.count("\n") + 2
        for behind in ("", "\n", "\nunknown q: 0..1", "\n?"):
            self.assertEqual(fault(before + "\n" + lines[-1] + behind), number, lines)

    def saying(self, line):
        """The saying that the line s: .. tells."""
        model, wishes, places = self.right(f"s: {line}")
        self.assertEqual(len(model[1]), 1)
        self.assertEqual(model[1][0][0], "s")
        return model[1][0][1]


class Tokens(Lines):
    def test_lines_that_tell_nothing(self):
        model = flatten("unknown z: 1..2")
        self.assertEqual(model, (((("z", (1, 2)),), (), ()), ((0, (), 0),), (("z", 1),)))
        told = flatten("\n   \n# any % signs ? \n\nunknown z: 1..2\n#\n")
        self.assertEqual(told, (model[0], model[1], (("z", 5),)))
        self.wrong(" # this is no comment")
        self.wrong("unknown q: 1..2 # neither")

    def test_without_an_unknown(self):
        for text, number in (("", 1), ("\n", 2), ("# none", 1), ("set row: a\n\n", 3), ("data", 1), ("wish 3", 1),
                             ("wish 3\nwish 4\n#", 3), ("set row: a\nwish 1, prices\nset col", 3)):
            self.assertEqual(fault(text), number)

    def test_spaces_mean_nothing(self):
        told = self.right("s for i in row: x(i) + 2 * z >= - 3")
        for line in ("s for i in row:x(i)+2*z>=-3", "  s   for i   in row :x ( i )+2  *z  >=  -  3   ",
                     "s for i in row: x(i) +2* z>= -3"):
            self.assertEqual(self.right(line), told)
        # without a space there is another token
        for line in ("sfor i in row: z >= 1", "s fori in row: z >= 1", "s: z > = 1", "s: 2 0 * z >= 1", "s: z >= 1 2"):
            self.wrong(line)
        self.assertEqual(self.right("s: 2*z >= 1"), self.right("s:2*z>=1"))
        self.wrong("s: 2z >= 1")

    def test_longest_words_and_numbers(self):
        self.right("unknown abcdefg8: 0..1", "s1234567: unlike abcdefg8")
        self.wrong("unknown abcdefgh9: 0..1")
        self.wrong("s12345678: unlike z")
        self.right("set abcdefgh: abcdefg1 b2345678")
        self.wrong("set q: abcdefghi")
        self.right("unknown q: 0000000..0000001")
        self.wrong("unknown q: 00000000..1")
        self.right("s: 1000000 - 999999 * z <= 1000000 - 999998 * z")
        self.wrong("s: z <= 10000000")

    def test_other_characters(self):
        for sign in "ABZ!\"#$%&'/>?@[]^_`|~\t\r.":
            self.wrong(f"s: unlike z{sign}")
            self.wrong(f"s{sign}: unlike z")
        self.wrong("s: unlike z.w")
        self.wrong("unknown q: 0...2")
        self.wrong("unknown q: 0.. .2")
        self.wrong("é: unlike z")

    def test_set_words(self):
        words = """set data unknown soft wish prices for in if and or not sum each unlike round ahead top is pick of product
            count table bar machine moves ends works lengths needs room claim when""".split()
        self.assertEqual(len(words), 34)
        for word in words:
            self.wrong(f"unknown {word}: 0..1")
            self.wrong(f"set q: {word}")
            self.wrong(f"set {word}: q")
            self.wrong(f"s for {word} in row: unlike z")
            self.wrong(f"soft 3 {word}: unlike z")
            self.wrong(f"{word}: unlike z")
        for word in ("some", "best", "every", "put", "say", "drop", "min", "sets"):
            self.right(f"unknown {word}: 0..1", f"s: unlike {word}")


class Heads(Lines):
    def test_sets(self):
        self.right("set q: e", "unknown u(q, row): 0..1")
        self.right("set q: " + " ".join(f"i{k}" for k in range(24)))
        for line in ("set q: " + " ".join(f"i{k}" for k in range(25)), "set q:", "set q: e e", "set q e", "set: e", "set q: e, f",
                     "set q: 1", "set q: q", "set q: row", "set q: e x", "set q: z", "set q: e cost", "set row: e", "set a: e",
                     "set x: e", "set q: e;", "set"):
            self.wrong(line)
        self.wrong("s: unlike z", "set q: s")
        self.wrong("s: unlike z", "set s: q")
        # an item may stand in several sets, and its own variable of an earlier line may become one
        self.right("s for i in row: unlike x(i), z", "set q: i a b", "unknown u(q): 0..1", "t: unlike u(i)")

    def test_data(self):
        self.right("data q(col): 1000000 -1000000", "s: z >= q(c) + q(d)")
        self.right("data q(row, col, row): " + " ".join(str(k) for k in range(18)))
        self.right("data q(row,row): 1 2 3 4 5 6 7 8 9", "unknown u: 2..2", "s for i in row, j in row if q(i, j) = 8: unlike u")
        for line in ("data q(col): 1", "data q(col): 1 2 3", "data q(col):", "data q: 1 2", "data q(): 1", "data q(col, z): 1 2",
                     "data q(z): 1", "data q(e): 1 2", "data q(row,col,row,col): " + "1 " * 36, "data q(col): 1, 2",
                     "data q(col): 1000001 2", "data q(col): -1000001 2", "data q(col) 1 2", "data cost(col): 1 2",
                     "data a(col): 1 2", "data row(col): 1 2", "data z(col): 1 2", "data q(col: 1 2", "data q(a): 1",
                     "data q(col): 1 x"):
            self.wrong(line)

    def test_data_in_the_order_of_the_tuples(self):
        for pair, number in (("a, c", 1), ("a, d", 2), ("b, c", 3), ("c, d", 6)):
            self.assertEqual(self.saying(f"z >= gap({pair})"), ("least", (("z", 1),), number))

    def test_unknowns(self):
        model, wishes, places = self.right()
        self.assertEqual(model[0], (
            ("x.a", (0, 1, 2)), ("x.b", (0, 1, 2)), ("x.c", (0, 1, 2)), ("y.a.c", (-1, 4)), ("y.a.d", (-1, 4)),
            ("y.b.c", (-1, 4)), ("y.b.d", (-1, 4)), ("y.c.c", (-1, 4)), ("y.c.d", (-1, 4)), ("z", tuple(range(10))),
            ("w", tuple(range(10)))))
        self.assertEqual(places, tuple(sorted((x, 5 + "xyzw".index(x[0])) for x, domain in model[0])))
        for line in ("unknown q: -200..-189", "unknown q: 189..200", "unknown q: 3..3", "unknown q: {5}", "unknown q: {-200, 0, 200}",
                     "unknown q(row, row): 0..1", "unknown q(col,col,col): 0..1", "unknown q: {1,2,3,4,5,6,7,8,9,10,11,12}"):
            self.right(line)
        for line in ("unknown q: 0..12", "unknown q: 1..0", "unknown q: -201..-200", "unknown q: 200..201", "unknown q: {}",
                     "unknown q: {1, 1}", "unknown q: {2, 1}", "unknown q: {1 2}", "unknown q: {1, 2", "unknown q: 1, 2",
                     "unknown q: {201}", "unknown q: {1,2,3,4,5,6,7,8,9,10,11,12,13}", "unknown q: 1 .. 2 3", "unknown q 1..2",
                     "unknown q(): 1..2", "unknown q(z): 1..2", "unknown q(row, col, row, col): 1..2", "unknown q: -1000000..1000000",
                     "unknown x: 0..1", "unknown a: 0..1", "unknown row: 0..1", "unknown cost: 0..1", "unknown q: 1..",
                     "unknown q: --1..2", "unknown: 1..2", "unknown q(a): 0..1"):
            self.wrong(line)

    def test_at_most_24_unknowns(self):
        self.right("unknown q(row, row): 0..1", "unknown u: 0..1", "unknown v: 0..1", "unknown t(col): 0..1")
        self.wrong("unknown q(row, row): 0..1", "unknown u: 0..1", "unknown v: 0..1", "unknown t(row): 0..1")
        self.wrong("set q: e f g h i", "unknown u(q, q): 0..1")

    def test_names_of_more_than_24_characters(self):
        head = "set long: abcdefg1 abcdefg2\nset less: abcdef\nunknown u: 0..1"
        self.right("unknown abcdefgh(less, long): 0..1", head=head)
        self.wrong("unknown abcdefgh(long, long): 0..1", head=head)
        self.wrong("abcdefgh for i in long, j in long: unlike u", head=head)
        self.right("abcdefgh for i in long, j in long if i < 0: unlike u", head=head)
        self.right("abcdefg for i in less, j in long: unlike u", head=head)


class Places(Lines):
    def names(self, places, soft=False):
        """The names of the sayings that s tells for these places."""
        model, wishes, told = self.right(f"{'soft 3 ' if soft else ''}s for {places}: unlike z")
        return [item[0] for item in (model[2] if soft else model[1])]

    def test_tuples_in_their_order(self):
        self.assertEqual(self.names("i in row"), ["s.a", "s.b", "s.c"])
        self.assertEqual(self.names("i in row, j in col"), ["s.a.c", "s.a.d", "s.b.c", "s.b.d", "s.c.c", "s.c.d"])
        self.assertEqual(self.names("i in col, j in col, k in col")[:3], ["s.c.c.c", "s.c.c.d", "s.c.d.c"])
        self.assertEqual(self.names("i in col", True), ["s.c", "s.d"])
        model, wishes, places = self.right("s: unlike z", "soft 3 t: unlike z", "u for i in row: unlike z")
        self.assertEqual([s for s, saying in model[1]], ["s", "u.a", "u.b", "u.c"])
        self.assertEqual(model[2], (("t", ("unlike", ("z",)), 3),))
        self.assertEqual([pair for pair in places if pair[0][0] in "stu"],
                         [("s", MANY + 1), ("t", MANY + 2), ("u.a", MANY + 3), ("u.b", MANY + 3), ("u.c", MANY + 3)])

    def test_comparisons(self):
        for told, right in (("i = 1", "b"), ("i < 1", "a"), ("i <= 1", "ab"), ("1 < i", "c"), ("cost(i) < 0", "b"),
                            ("cost(i) = 20", "c"), ("-1 = cost(i)", "b"), ("cost(a) <= cost(i)", "ac"), ("0 <= i and i < 2", "ab"),
                            ("i = i", "abc"), ("cost(i) < i", "b"), ("i < 1 and 1 < i", ""), ("- 1 < 0 and i = 2", "c")):
            self.assertEqual(self.names(f"i in row if {told}"), [f"s.{item}" for item in right])
        self.assertEqual(self.names("i in row, j in row if i < j"), ["s.a.b", "s.a.c", "s.b.c"])
        self.assertEqual(self.names("i in row, j in col if gap(i, j) <= 2 and 0 < j"), ["s.a.d"])
        # places are those of each one's own set
        self.assertEqual(self.names("i in row, j in col if i = j"), ["s.a.c", "s.b.d"])

    def test_wrong_ones(self):
        for places in ("i in row if i >= 1", "i in row if i > 1", "i in row if", "i in row if i", "i in row if x(i) = 1",
                       "i in row if z = 1", "i in row if i = 1 or i = 2", "i in row i in col", "i in row,", "i in z", "i in a",
                       "i in q", "i", "in row", "i in row, i in col", "z in row", "a in row", "d in row", "row in row", "cost in row",
                       "s in row", "i in row, j in row, k in row, l in col", "i in row if j = 1", "i in row if cost(j) = 1",
                       "i in row if cost = 1", "i in row if gap(i, i) = 1", "i in row if gap(i) = 1", "i in row if i + 1 = 2",
                       "i in row if cost(d) = 1", "i in row if 1000001 = i", "i in row if -1000001 = i"):
            self.wrong(f"s for {places}: unlike z")
        self.wrong("s for i in row, j in row, k in row, l in col if i < 0: unlike z")
        self.wrong("s: unlike z, each i in row, j in row, k in row, l in col if i < 0: y(i, l)")
        self.wrong("s for: unlike z")
        self.wrong("s for i in row unlike z")
        self.right("s for j in row, i in col: unlike z")

    def test_items_and_variables(self):
        self.assertEqual(self.saying("unlike x(a), y(c, c), y(c, d)"), ("unlike", ("x.a", "y.c.c", "y.c.d")))
        model, wishes, places = self.right("s for i in row, j in col if i < 2: unlike x(i), y(i, j), x(c)")
        self.assertEqual(model[1][1], ("s.a.d", ("unlike", ("x.a", "y.a.d", "x.c"))))
        for line in ("unlike x", "unlike x()", "unlike x(d)", "unlike x(a, b)", "unlike x(q)", "unlike y(c)", "unlike y(d, c)",
                     "unlike z(a)", "unlike z()", "unlike a", "unlike row", "unlike cost(a)", "unlike q", "unlike x(1)",
                     "unlike x(z)", "unlike x(a", "unlike s"):
            self.wrong(f"s: {line}")
        # a variable over this very set, though the item lies in both
        self.wrong("s for i in col: unlike x(i)")
        self.wrong("s for i in row: unlike y(a, i)")
        self.wrong("s for i in row: unlike x(j)")

    def test_where_variables_may_be_used(self):
        self.right("s for i in row: sum j in row if j < i: (x(j)) + x(i) >= i")
        self.right("s: sum i in row: (x(i)) + sum i in col: (y(a, i)) >= 0")
        self.right("s: unlike each i in row: x(i), each i in col: y(a, i)")
        self.right("s: sum i in row: (x(i)) >= 1", "t for i in row: unlike x(i), z")
        for line in ("s: sum i in row: (x(i)) + x(i) >= 0", "s: sum i in row: (x(i)) >= i", "s: unlike each i in row: x(i), x(i)",
                     "s for i in row: sum i in row: (x(i)) >= 0", "s for i in row: unlike each i in row: x(i)",
                     "s: sum i in row: (sum i in col: (y(a, i))) >= 0", "s: sum s in row: (x(s)) >= 0", "wish sum z in row: (x(z))",
                     "s: unlike each j in row if i = 1: x(j)", "wish x(i)"):
            self.wrong(line)

    def test_words_are_used_behind_the_line_that_tells_them(self):
        self.wrong("s: unlike q")
        self.wrong("s for i in late: unlike z")
        self.wrong("s: z >= late(a)")
        self.right("set late: g", "data q(late): 1", "unknown u(late): 0..1", "s for i in late: u(i) >= q(i)")

    def test_all_words_are_different(self):
        self.right("s: unlike z", "t: unlike z")
        self.wrong("s: unlike z", "s: unlike w")
        self.wrong("s: unlike z", "soft 1 s: unlike w")
        self.wrong("s: unlike z", "unknown s: 0..1")
        self.wrong("s for i in row if i < 0: unlike z", "unknown s: 0..1")
        for word in ("row", "a", "cost", "x", "z"):
            self.wrong(f"{word}: unlike w")


class Sums(Lines):
    def test_gathering_and_order(self):
        for line, right in (
                ("z >= 3", ("least", (("z", 1),), 3)), ("z <= 3", ("least", (("z", -1),), -3)), ("z = 3", ("same", (("z", 1),), 3)),
                ("3 <= z", ("least", (("z", 1),), 3)), ("3 = z", ("same", (("z", -1),), -3)), ("3 >= z", ("least", (("z", -1),), -3)),
                ("2 * z + z * 3 - w >= 1", ("least", (("z", 5), ("w", -1)), 1)),
                ("w >= z + 2", ("least", (("w", 1), ("z", -1)), 2)), ("w <= z + 2", ("least", (("w", -1), ("z", 1)), -2)),
                ("z - w <= x(a) - z", ("least", (("z", -2), ("w", 1), ("x.a", 1)), 0)),
                ("z + w - z >= x(a)", ("least", (("w", 1), ("x.a", -1)), 0)),
                ("0 * w + z + w >= 0", ("least", (("w", 1), ("z", 1)), 0)), ("z * 0 + w + z >= 0", ("least", (("z", 1), ("w", 1)), 0)),
                ("-z + 3 * 4 - 2 >= - 1", ("least", (("z", -1),), -11)), ("z >= 2 * 3 - 10 * 4", ("least", (("z", 1),), -34)),
                ("cost(b) * z >= cost(c) * cost(a)", ("least", (("z", -1),), 60)), ("z * cost(a) = 0", ("same", (("z", 3),), 0)),
                ("z + 5 = w + 5", ("same", (("z", 1), ("w", -1)), 0))):
            self.assertEqual(self.saying(line), right, line)

    def test_sums_within_sums(self):
        for line, right in (
                ("sum i in row: (x(i)) >= 1", ("least", (("x.a", 1), ("x.b", 1), ("x.c", 1)), 1)),
                ("w - sum i in row: (cost(i) * x(i) - i) >= 0", ("least", (("w", 1), ("x.a", -3), ("x.b", 1), ("x.c", -20)), -3)),
                ("sum i in col: (sum j in row if j < 2: (y(j, i) * j)) >= 0", ("least", (("y.b.c", 1), ("y.b.d", 1)), 0)),
                ("sum i in col: (sum j in row if j < 2: (y(j, i) * j)) + y(a, d) - y(a, c) >= 0",
                 ("least", (("y.a.c", -1), ("y.b.c", 1), ("y.a.d", 1), ("y.b.d", 1)), 0)),
                ("z + sum i in row if 9 < i: (1000000 * 1000000) >= 0", ("least", (("z", 1),), 0)),
                ("z + sum i in row, j in row if i < j: (i * j + 1) >= 0", ("least", (("z", 1),), -5)),
                ("- sum i in row: (- x(i) + 1) >= 0", ("least", (("x.a", 1), ("x.b", 1), ("x.c", 1)), 3)),
                ("z + sum i in row: (2) >= 0", ("least", (("z", 1),), -6))):
            self.assertEqual(self.saying(line), right, line)
        self.right("s: z + sum i in row: (sum j in row: (sum k in row: (1))) >= 0")
        self.right("s: z + sum i in row, j in row: (sum k in row: (1) + sum l in row: (1)) >= 0")
        self.wrong("s: z + sum i in row, j in row: (sum k in row, l in col: (1)) >= 0")
        self.wrong("s: z + sum i in row: (sum j in row: (sum k in row: (sum l in row: (1)))) >= 0")
        self.right("s: z >= sum i in row, j in row, k in row: (1)")
        self.right("wish sum i in row, j in row, k in row: (1)")
        self.wrong("wish sum i in row, j in row: (sum k in row, l in row: (1))")
        # the variables of "for" do not count
        self.right("s for n in row: z + sum i in row, j in row, k in row: (1) >= 0")

    def test_wrong_forms(self):
        for line in ("z", "z >=", ">= 1", "z > 1", "z < 1", "z == 1", "z >= 1 >= 0", "z + >= 1", "+ z >= 1", "z w >= 1", "z * w >= 1",
                     "2 * 3 * z >= 1", "z * -2 >= 1", "- - z >= 1", "z - - w >= 1", "z + -w >= 1", "2(z) >= 1", "(z) >= 1", "z >= (1)",
                     "sum i in row: x(i) >= 1", "sum i in row (x(i)) >= 1", "sum (z) >= 1", "sum i in row: () >= 1", "x >= 1",
                     "row >= 1", "a >= 1", "cost >= 1", "z >= s", "2 * sum i in row: (x(i)) >= 1", "x(a) * x(b) >= 1", "x(a) * x(a) = 1",
                     "sum i in row: (x(i)) * 2 >= 1", "each i in row: x(i) >= 1", "z >= 1, prices"):
            self.wrong(f"s: {line}")

    def test_numbers_products_weights_and_constants(self):
        # [5] lets weights to 100 and constants to a million
        self.right("s: 100 * z >= 1000000")
        self.right("s: - 100 * z >= - 1000000")
        for line in ("101 * z >= 0", "50 * z + 51 * z >= 0", "z >= 1000000 + 1", "z >= 1000001", "z + 1 >= 0 - 1000000 - 1 - 1 + 1",
                     "z >= 1000 * 1001", "z >= 1001 * 1000 - 1000000", "1000001 * z >= 1000001 * z", "w >= 1000000 * 2 - 1000000 * 1"):
            self.wrong(f"s: {line}")
        self.right("s: 1000000 * z - 999900 * z >= 0")
        self.right("s: z >= 1000000 + 1000000 - 1000000")
        self.right("s: z >= 1000 * 1000")
        self.right("s for i in row if i < 0: z >= 1000 * 1001 + 1000000")
        self.wrong("s for i in row if i < 0: z >= 1000001")
        # without terms it is no saying
        for line in ("1 >= 0", "z - z >= 0", "0 * z >= 0", "z = z"):
            self.wrong(f"s: {line}")
            self.right(f"s for i in row if i < 0: {line}")

    def test_at_most_12_terms(self):
        head = "set n: " + " ".join(f"i{k}" for k in range(13)) + "\nunknown q(n): 0..1"
        self.right("s: sum i in n if i < 12: (q(i)) >= 3", head=head)
        self.right("s: sum i in n: (q(i)) - q(i3) >= 3", head=head)
        self.wrong("s: sum i in n: (q(i)) >= 3", head=head)
        self.wrong("s: unlike each i in n: q(i)", head=head)
        self.right("s: unlike each i in n if 0 < i: q(i)", head=head)
        self.wrong("wish sum i in n: (q(i))", head=head)


class Wishes(Lines):
    def test_forms(self):
        for line, right in (("wish z", (0, (("z", 1),), 0)), ("wish 3, prices", (3, (), 1)), ("wish 0", (0, (), 0)),
                            ("wish z - 2 * w + z - 4 , prices", (-4, (("w", -2), ("z", 2)), 1)),
                            ("wish sum i in row: (cost(i) * x(i) + 1)", (3, (("x.a", 3), ("x.b", -1), ("x.c", 20)), 0)),
                            ("wish w - w + z - 0 * x(a)", (0, (("z", 1),), 0))):
            self.assertEqual(self.right(line)[1], (right,))
        self.assertEqual(self.right("wish z", "wish w", "wish 1")[1], ((0, (("z", 1),), 0), (0, (("w", 1),), 0), (1, (), 0)))
        self.assertEqual(self.right()[1], ((0, (), 0),))

    def test_wrong_ones(self):
        for line in ("wish", "wish prices", "wish z prices", "wish z,", "wish z, price", "wish z, prices, prices", "wish z >= 1",
                     "wish q", "wish: z", "wish 101 * z", "wish 1000001", "wish 1000000 + 1", "wish w: z", "wish z * z"):
            self.wrong(line)
        self.wrong("wish z", "wish z", "wish z", "wish z")
        self.assertEqual(fault("set row: a\nwish z * 2\nunknown z: 0..1"), 2)
        self.right("unknown z: 0..1", head="wish 3")


class Sayings(Lines):
    def check(self, pairs):
        for line, right in pairs:
            self.assertEqual(self.saying(line), right, line)

    def test_lists(self):
        self.check((("unlike z", ("unlike", ("z",))), ("unlike z, x(a), w", ("unlike", ("z", "x.a", "w"))),
                    ("round each i in row: x(i), z", ("round", ("x.a", "x.b", "x.c", "z"))),
                    ("unlike z, each i in row, j in col if i < 1: y(i, j), w", ("unlike", ("z", "y.a.c", "y.a.d", "w"))),
                    ("ahead x(a), x(b); z, w", ("ahead", ("x.a", "x.b"), ("z", "w"))),
                    ("top each i in row: x(i) is z", ("top", ("x.a", "x.b", "x.c"), "z")), ("top z is w", ("top", ("z",), "w")),
                    ("pick z of each i in row: x(i) is w", ("pick", "z", ("x.a", "x.b", "x.c"), "w")),
                    ("product x(a), y(a, c), x(b)", ("product", "x.a", "y.a.c", "x.b")),
                    ("unlike z, each i in row if i < 0: x(i)", ("unlike", ("z",)))))
        for line in ("unlike", "unlike z,", "unlike ,z", "unlike z w", "unlike z, z", "round z; w", "round", "ahead z", "ahead z; ",
                     "ahead z, w; x(a)", "ahead z; z", "ahead z; w; x(a)", "top z", "top is z", "top z is", "top z is z", "top z is w, x(a)",
                     "top z is 3", "pick z of w", "pick z is w", "pick z of x(a) is z", "pick z, w of x(a) is x(b)", "product z, w",
                     "product x(a), x(b), x(c), z", "product z, w, x(a)", "product each i in row: x(i)", "product x(a), x(b), x(a)",
                     "unlike each i in row: (x(i))", "unlike each i in row x(i)", "unlike each: z", "unlike 3", "unlike z and w",
                     "unlike each i in row if i < 0: x(i)", "top each i in row: x(i), is z"):
            self.wrong(f"s: {line}")

    def test_counts_and_rows(self):
        self.check((("count z, w: 3 is 0..2, -1 is 1 .. 12", ("counts", ("z", "w"), ((-1, 1, 12), (3, 0, 2)))),
                    ("count each i in row: x(i): 1 is 0..0", ("counts", ("x.a", "x.b", "x.c"), ((1, 0, 0),))),
                    ("table z, w: (3, -1) (1, 2) (3, -1)", ("table", ("z", "w"), ((1, 2), (3, -1)))),
                    ("table z:", ("table", ("z",), ())), ("bar z, w: (3, 1)(1, 2)", ("bar", ("z", "w"), ((1, 2), (3, 1)))),
                    ("bar z:", ("bar", ("z",), ()))))
        for line in ("count z:", "count z", "count z: 1 is 0", "count z: 1 is 0..13", "count z: 1 is 2..1", "count z: 1 is -1..2",
                     "count z: 1 is 0..1 2 is 0..1", "count z: 1 is 0..1, 1 is 0..1", "count z: 1 is 0..1, 1 is 0..2", "count z: 201 is 0..1",
                     "count z: 1 in 0..1", "count : 1 is 0..1", "table z, w: (1)", "table z: (1, 2)", "table z", "table z: 1", "table z: ()",
                     "table z: (1) (2", "table z: (1), (2)", "table z: (201)", "table z: (w)", "table z, w: (1, 2) (3)",
                     "bar x(a), x(b), x(c), z: (0, 0, 0, 0)", "bar z: (1;2)", "table z: (1) z"):
            self.wrong(f"s: {line}")
        rows = " ".join(f"({k}, {j})" for k in range(10) for j in range(6))
        self.right(f"s: table z, w: {rows} {rows}")
        self.wrong(f"s: table z, w: {rows} (7, 7)")
        self.right("s: count z, w: " + ", ".join(f"{k} is 0..1" for k in range(12)))
        self.wrong("s: count z, w: " + ", ".join(f"{k} is 0..1" for k in range(13)))

    def test_machines(self):
        self.check((("machine z, w: 3 moves (3, 1, 0) (0, -2, 3) ends 3 0", ("machine", ("z", "w"), 3, ((0, -2, 3), (3, 1, 0)), (0, 3))),
                    ("machine z: 0 moves ends", ("machine", ("z",), 0, (), ())),
                    ("machine each i in row: x(i): 11 moves(11,0,11)ends 11", ("machine", ("x.a", "x.b", "x.c"), 11, ((11, 0, 11),), (11,)))))
        for line in ("machine z: 12 moves ends", "machine z: 0 moves (0, 1, 12) ends", "machine z: 0 moves ends 12", "machine z: 0 moves",
                     "machine z: 0 ends", "machine z: moves ends", "machine z 0 moves ends", "machine z: 0 moves (0, 1) ends",
                     "machine z: 0 moves (0, 1, 2, 3) ends", "machine z: 0 moves (0, 1, 2), (0, 2, 2) ends", "machine z: 0 moves ends 0, 1",
                     "machine z: 0 moves (0, 1, 2) (0, 1, 2) ends", "machine z: 0 moves (0, 1, 2) (0, 1, 3) ends", "machine z: 0 moves ends 1 1",
                     "machine z: -1 moves ends", "machine z: 0 moves (-1, 1, 2) ends", "machine z: 0 moves (0, 1, -2) ends",
                     "machine z: 0 moves ends -1", "machine z: 0 moves (0, 201, 2) ends", "machine z: 0 moves (0, 1, 2 ends"):
            self.wrong(f"s: {line}")

    def test_works(self):
        self.check((("works z, w lengths 1, 2 needs 3, 0 room 4", ("works", ("z", "w"), (1, 2), (3, 0), 4)),
                    ("works each i in row: x(i) lengths each i in row if i < 2: cost(a), cost(c) needs each j in row: j room 0",
                     ("works", ("x.a", "x.b", "x.c"), (3, 3, 20), (0, 1, 2), 0)),
                    ("works z lengths gap(b, d) needs 100 room 1200", ("works", ("z",), (4,), (100,), 1200))))
        model, wishes, places = self.right("s for i in row: works z lengths 5 needs i room 7")
        self.assertEqual(model[1][2], ("s.c", ("works", ("z",), (5,), (2,), 7)))
        for line in ("works z lengths 0 needs 1 room 1", "works z lengths 51 needs 1 room 1", "works z lengths 1 needs 101 room 1",
                     "works z lengths 1 needs -1 room 1", "works z lengths 1 needs 1 room 1201", "works z lengths 1 needs 1 room -1",
                     "works z lengths 1, 2 needs 1 room 1", "works z lengths 1 needs 1, 1 room 1", "works z lengths 1 needs 1",
                     "works z lengths 1 room 1", "works z needs 1 lengths 1 room 1", "works z lengths needs 1 room 1",
                     "works z lengths 1 needs 1 room cost(a)", "works z lengths cost(b) needs 1 room 1", "works z lengths w needs 1 room 1",
                     "works z lengths 1 + 1 needs 1 room 1", "works z lengths x(a) needs 1 room 1", "works lengths 1 needs 1 room 1",
                     "works z lengths 1 needs 1 room 1, 2", "works z lengths i needs 1 room 1"):
            self.wrong(f"s: {line}")

    def test_claims(self):
        self.check((("claim z >= 3", ("claim", ("from", "z", 3))), ("claim z = -3", ("claim", ("is", "z", -3))),
                    ("claim not z = 3", ("claim", ("not", ("is", "z", 3)))),
                    ("claim and (z = 3, or (), not or (x(a) >= 1))",
                     ("claim", ("and", (("is", "z", 3), ("or", ()), ("not", ("or", (("from", "x.a", 1),))))))),
                    ("when z = 1: unlike z, w", ("when", ("is", "z", 1), ("unlike", ("z", "w")))),
                    ("when and (z = 1): 2 * z - w <= 3", ("when", ("and", (("is", "z", 1),)), ("least", (("z", -2), ("w", 1)), -3))),
                    ("when not x(a) >= 1: claim z = 1", ("when", ("not", ("from", "x.a", 1)), ("claim", ("is", "z", 1)))),
                    ("when z = 1: sum i in row: (x(i)) = 2", ("when", ("is", "z", 1), ("same", (("x.a", 1), ("x.b", 1), ("x.c", 1)), 2)))))
        for line in ("claim", "claim z", "claim z <= 3", "claim z > 3", "claim z < 3", "claim 3 = z", "claim z = w", "claim z = 201",
                     "claim z >= -201", "claim not", "claim and z = 1", "claim and (z = 1", "claim and (z = 1,)", "claim and (z = 1 w = 1)",
                     "claim (z = 1)", "claim z = 1, w = 1", "claim and ()", "claim not or ()", "claim z = 1 and w = 1", "claim z + w = 1",
                     "claim 2 * z = 2", "when z = 1", "when z = 1:", "when z = 1 unlike z", "when: unlike z", "when z = 1: when w = 1: unlike z",
                     "when and (): unlike z", "claim unlike z", "when z = 1: z = 2: w = 3", "when unlike z: unlike w", "claim each i in row: x(i) = 1",
                     "claim and (each i in row: x(i) = 1)", "claim z = cost(a)", "claim and (x(a) = 1, x(b) = 1, x(c) = 1, z = 1)"):
            self.wrong(f"s: {line}")

    def test_depths_and_parts_of_claims(self):
        self.right("s: claim " + "not " * 5 + "z = 1")
        self.wrong("s: claim " + "not " * 6 + "z = 1")
        self.wrong("s: claim " + "not " * 4000 + "z = 1")
        self.right("s: claim and (or (and (or (and (z = 1)))))")
        self.wrong("s: claim and (or (and (or (and (or (z = 1))))))")
        self.right("s: claim and (or (and (or (and (or ())))), z = 1)")
        self.wrong("s: claim and (or (and (or (and (or (or ()))))), z = 1)")
        self.right("s: claim and (" + ", ".join(["z = 1"] * 29) + ")")
        self.wrong("s: claim and (" + ", ".join(["z = 1"] * 30) + ")")
        # the depth is of the form, also without tuples; the number of parts is of the saying
        self.wrong("s for i in row if i < 0: claim " + "not " * 6 + "z = 1")
        self.wrong("s for i in row if i < 0: when z = 1: when w = 1: unlike z")
        self.right("s for i in row if i < 0: claim and (" + ", ".join(["z = 1"] * 30) + ")")


class Models(Lines):
    def test_prices_and_numbers_of_sayings(self):
        self.right("soft 1 s: unlike z", "soft 100 t: unlike z")
        for line in ("soft 0 s: unlike z", "soft 101 s: unlike z", "soft s: unlike z", "soft -1 s: unlike z", "soft 3 3 s: unlike z",
                     "soft cost(a) s: unlike z", "soft 3: unlike z", "soft 3 s unlike z"):
            self.wrong(line)
        self.right("soft 0 s for i in row if i < 0: unlike z")
        self.wrong("soft 1000001 s for i in row if i < 0: unlike z")
        self.right("s for i in row, j in row, k in row: unlike z", "t for i in row, j in row if i < 3: unlike z",
                   "u for i in row: unlike z", "v: unlike z")
        self.wrong("s for i in row, j in row, k in row: unlike z", "t for i in row, j in row if i < 3: unlike z",
                   "u for i in row: unlike z", "v: unlike z", "o: unlike z")
        self.right("soft 1 s for i in row, j in col: unlike z", "soft 1 t for j in col: unlike z")
        self.wrong("soft 1 s for i in row, j in row: unlike z")
        self.wrong("soft 1 s for i in row, j in col: unlike z", "soft 1 t for j in row: unlike z")

    def test_lines_without_tuples(self):
        model = self.right()[0]
        for saying in ("x(a) - x(a) >= 0", "z >= 999999 * 999999", "101 * z >= 0", "table z: (1, 2)", "unlike z, z", "1 >= 2",
                       "count z: 500 is 9..3", "machine z: 99 moves ends 77", "works z lengths 0 needs 500, 4 room 9999",
                       "claim and ()", "product z, w, x(a)", "unlike each i in row if i < 0: x(i)", "ahead z; w, x(a)"):
            self.assertEqual(self.right(f"s for n in row if n < 0: {saying}")[0], model)
            self.wrong(f"s: {saying}")
        for saying in ("product z, w", "product z, w, x(a), x(b)", "when " + "not " * 6 + "z = 1: unlike z", "ahead z, w",
                       "claim and (or (and (or (and (or (z = 1))))))", "claim or (and (z = 1, or (and (or (and (z = 1))))))"):
            self.wrong(f"s for n in row if n < 0: {saying}")
        self.right("s for n in row if n < 0: when " + "not " * 5 + "z = 1: unlike z")
        self.right("s for n in row if n < 0: claim and (or (and (or (and (z = 1)))))")
        for saying in ("z >= q", "z >=", "unlike x", "unlike x(d)", "z * w >= 1", "z >= 1000001", "table z: (1000001)",
                       "count z: 1 is 0..9999999", "claim z = -1000001"):
            self.wrong(f"s for n in row if n < 0: {saying}")
        # the word is told all the same
        self.wrong("s for n in row if n < 0: unlike z", "s: unlike z")

    def test_the_first_wrong_line(self):
        self.assertEqual(fault(HEAD + "\ns: z >= 1\nt: q\nu: q\ns: z >= 1"), MANY + 2)
        self.assertEqual(fault("unknown z 0..1\nset row: a a\n?"), 1)
        self.assertEqual(fault("\n#?\nset row: a\nunknown z(col): 0..1\nunknown z: 0..1"), 4)
        # a line is wrong where the model is not right any more, though the next one is wrong in its form
        self.assertEqual(fault("unknown z: 0..1\ns: 101 * z >= 0\nt"), 2)

    def test_no_unknown_yet(self):
        self.assertEqual(fault("set row: a\ns for i in row if i = 1: 1 >= 0\nwish 3\nunknown z: 0..1"), None)
        self.assertEqual(fault("s: claim and ()\nunknown z: 0..1"), 1)
        self.assertEqual(fault("s: 1 >= 0\nunknown z: 0..1"), 1)

    def test_lines_that_stand_for_many(self):
        head = ("set n: " + " ".join(f"i{k}" for k in range(24)) + "\nunknown q(n): 0..1\ndata c(n, n): " + "1 " * 576)
        begin = time.perf_counter()
        told = self.right("s: sum i in n, j in n, k in n: (c(i, j) * q(k)) - sum i in n, j in n, k in n: (q(k)) + q(i0) >= 0", head=head)
        self.assertEqual(told[0][1], (("s", ("least", (("q.i0", 1),), 0)),))
        self.wrong("s for i in n, j in n, k in n: q(i) >= 0", head=head)
        self.wrong("unknown u(n, n, n): 0..1", head=head)
        self.wrong("s: unlike each i in n, j in n, k in n: q(k)", head=head)
        self.right("data t(n, n): " + "7 " * 576, head=head)
        self.assertLess(time.perf_counter() - begin, 60)

    def test_lists_that_would_have_very_many_names(self):
        head = "set n: " + " ".join(f"i{k}" for k in range(24)) + "\nunknown z: 0..1\nunknown x: 0..1"
        places = "i in n, j in n, k in n"
        many = ", ".join([f"each {places}: z"] * 500)
        numbers = ", ".join([f"each {places}: 1"] * 500)
        none = ", ".join([f"each {places} if i < 0: z"] * 20)
        for line in (f"s: unlike {many}", f"s: when z = 1: ahead x; {many}", f"s: works z lengths {numbers} needs 1 room 1",
                     f"s: works z lengths 1 needs {numbers} room 1", f"s: unlike {none}, {many}"):
            tracemalloc.start()
            with Alarm(self, 20):
                self.assertEqual(fault(f"{head}\n{line}\n?"), 4, line[:40])
            peak = tracemalloc.get_traced_memory()[1]
            tracemalloc.stop()
            self.assertLess(peak, 50 * 10 ** 6, line[:40])

    def test_lists_of_12_names_by_several_each(self):
        head = "set n: " + " ".join(f"i{k}" for k in range(14)) + "\nunknown q(n): 0..1"
        listed = "each i in n if i < 5: q(i), q(i5), each i in n if 5 < i and i <= 11: q(i)"
        for form, right in (("s: unlike {}", True), ("s: unlike {}, q(i12)", False), ("s: unlike q(i12), {}", False),
                            ("s: unlike {}, each i in n if i = 12: q(i)", False), ("s: pick q(i12) of {} is q(i13)", True),
                            ("s: unlike {}, each i in n if i < 0: q(i)", True)):
            self.assertEqual(fault(f"{head}\n{form.format(listed)}"), None if right else 3, form)

    def test_told_by(self):
        places = (("a", 3), ("b", 7), ("b.c", 7), ("d", 1))
        self.assertEqual(told_by(places, ("b", "d", "b.c")), (1, 7))
        self.assertEqual(told_by(places, ("a", "a")), (3,))
        self.assertEqual(told_by(places, ()), ())
