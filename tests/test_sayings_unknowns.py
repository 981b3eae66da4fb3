"""[6]: unknowns_of and is_small."""

import unittest

from aswritten.models import check_model, is_small, unknowns_of
from tests.samples import SAYINGS, model_of_all_kinds, model_with, model_with_soft

OWN = {
    "least": "ab", "same": "abc", "unlike": "abc", "counts": "abc", "table": "ab", "bar": "bc", "pick": "abcd",
    "top": "abc", "product": "abc", "ahead": "abcd", "machine": "abc", "works": "abc", "round": "abc", "claim": "ab",
    "when": "ab",
}


class UnknownsOf(unittest.TestCase):
    def test_each_kind(self):
        model = model_of_all_kinds()
        for word, names in OWN.items():
            with self.subTest(word):
                self.assertEqual(unknowns_of(model, "s." + word), tuple(names))
                self.assertEqual(unknowns_of(model_with_soft(SAYINGS[word]), "said"), tuple(names))

    def test_they_ascend_whatever_their_order_in_the_saying(self):
        for saying in (("pick", "c", ("h", "a"), "b"), ("top", ("h", "c", "b"), "a"), ("product", "c", "h", "a"),
                       ("ahead", ("h", "b"), ("c", "a")), ("unlike", ("h", "c", "b", "a")),
                       ("least", (("h", 1), ("b", 1), ("a", 1)), 0), ("works", ("h", "a"), (1, 1), (1, 1), 1)):
            with self.subTest(saying):
                names = unknowns_of(model_with(saying), "said")
                self.assertEqual(names, tuple(sorted(names)))
                self.assertIs(type(names), tuple)
        self.assertEqual(unknowns_of(model_with(("pick", "c", ("h", "a"), "b")), "said"), tuple("abch"))

    def test_they_ascend_as_strings(self):
        unknowns = tuple((name, (0, 1)) for name in ("x10", "x9", "a", ".", "9"))
        model = model_with(("unlike", ("x9", "x10", "9", "a", ".")), unknowns)
        self.assertEqual(unknowns_of(model, "said"), (".", "9", "a", "x10", "x9"))

    def test_each_once_in_a_claim(self):
        claim = ("or", (("is", "h", 0), ("not", ("is", "a", 1)), ("and", (("from", "a", 1), ("is", "h", 2)))))
        self.assertEqual(unknowns_of(model_with(("claim", claim)), "said"), ("a", "h"))

    def test_a_when_has_those_of_its_claim_and_of_its_inner_saying(self):
        when = ("when", ("and", (("is", "d", 0), ("is", "b", 0))), ("ahead", ("c", "b"), ("a", "e")))
        self.assertEqual(unknowns_of(model_with(when), "said"), tuple("abcde"))
        when = ("when", ("is", "d", 0), ("claim", ("or", (("is", "a", 0), ("is", "d", 0)))))
        self.assertEqual(unknowns_of(model_with(when), "said"), ("a", "d"))

    def test_arguments_by_name(self):
        model = model_with(SAYINGS["claim"])
        self.assertEqual(unknowns_of(model=model, name="said"), ("a", "b"))
        self.assertIs(is_small(model=model, name="said"), True)


def sized(*sizes):
    return tuple((name, tuple(range(size))) for name, size in zip("abcdefghijkl", sizes))


class IsSmall(unittest.TestCase):
    def test_at_256_and_above(self):
        for saying in (("unlike", ("a", "b", "c")), ("least", (("a", 1), ("c", -1), ("b", 2)), 0),
                       ("pick", "a", ("b",), "c"), ("top", ("a", "b"), "c"), ("table", ("c", "a", "b"), ()),
                       ("machine", ("a", "b", "c"), 0, (), ()), ("round", ("c", "b", "a")),
                       ("when", ("is", "a", 0), ("unlike", ("b", "c"))),
                       ("when", ("or", (("is", "a", 0), ("is", "b", 0))), ("unlike", ("a", "b", "c")))):
            for sizes, small in (((8, 8, 4, 12), True), ((12, 7, 3, 12), True), ((1, 1, 1, 12), True),
                                 ((2, 12, 10, 12), True), ((8, 11, 3, 1), False), ((9, 6, 5, 1), False),
                                 ((12, 12, 12, 12), False)):
                with self.subTest((saying, sizes)):
                    self.assertIsNone(check_model(model_with(saying, sized(*sizes))))
                    self.assertIs(is_small(model_with(saying, sized(*sizes)), "said"), small)
                    self.assertIs(is_small(model_with_soft(saying, sized(*sizes)), "said"), small)

    def test_many_unknowns(self):
        xs = tuple("abcdefghijkl")
        self.assertIs(is_small(model_with(("unlike", xs), sized(*[1] * 12)), "said"), True)
        self.assertIs(is_small(model_with(("unlike", xs), sized(*[2] * 8 + [1] * 4)), "said"), True)
        self.assertIs(is_small(model_with(("unlike", xs), sized(*[2] * 9 + [1] * 3)), "said"), False)
        self.assertIs(is_small(model_with(("unlike", xs), sized(*[12] * 12)), "said"), False)

    def test_a_when_may_have_small_parts_and_not_be_small(self):
        when = ("when", ("or", (("is", "a", 0), ("is", "b", 0))), ("product", "c", "d", "e"))
        model = model_with(when, sized(12, 12, 4, 4, 4))
        self.assertIsNone(check_model(model))
        self.assertIs(is_small(model, "said"), False)
