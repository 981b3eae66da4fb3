"""[5]: the form of claims, at their bounds and just beyond them."""

import unittest

from tests.samples import fault, model_with, nested, nested_not

IS = ("is", "a", 1)
FROM = ("from", "b", 1)


def is_right(claim):
    """Whether the claim is right as one of a "claim"; it has to be so in a "when", too."""
    told = fault(model_with(("claim", claim)))
    assert told in (None, ("sayings", 0))
    assert fault(model_with(("when", claim, ("unlike", ("c", "d"))))) == told
    return told is None


class Claims(unittest.TestCase):
    def test_right_claims(self):
        for claim in (IS, FROM, ("is", "a", -200), ("is", "a", 200), ("from", "h", -200), ("from", "h", 200),
                      ("not", IS), ("and", (IS,)), ("or", (IS, IS, FROM)), ("and", (IS, ("or", ()))),
                      ("or", (("and", ()), ("not", ("or", ())), FROM)), ("not", ("not", ("and", (IS, FROM))))):
            with self.subTest(claim):
                self.assertTrue(is_right(claim))

    def test_wrong_claims(self):
        for claim in (("is", "a", 201), ("is", "a", -201), ("from", "a", 201), ("from", "a", -201), ("is", "a", True),
                      ("from", "a", False), ("is", "a", None), ("is", "a", "1"), ("is", "zz", 1), ("from", "said", 1),
                      ("is", 1, "a"), ("is", ("a",), 1), ("is", "a"), ("is", "a", 1, 1), ("from", "a"), ("from",),
                      ("is",), ("not",), ("not", IS, IS), ("not", (IS,)), ("and", IS), ("or", IS), ("and", IS, IS),
                      ("not", IS, IS, IS), ("and", (IS,), (IS,), (IS,)), ("or", (IS,), 1, 1), ("is", "a", 1, 1, 1),
                      ("and", (IS,), (IS,)), ("or",), ("and",), ("and", None), ("or", ""), ("or", "is"), ("no", IS),
                      ("Is", "a", 1), ("least", (("a", 1),), 0), ("claim", IS), (None, IS), (("not",), IS), (True, IS),
                      "is", "not", None, True, 1, (), ("",), (IS,), ("and", (IS, None)), ("and", (IS, True)),
                      ("or", (IS, ())), ("or", ((), IS)), ("not", None), ("not", ()), nested(26), ("not", nested(24)),
                      ("and", nested(24)), ("is", nested(24), 0), ("is", "a", nested(24)), ("and", (IS, "ab"))):
            with self.subTest(claim):
                self.assertFalse(is_right(claim))

    def test_a_claim_has_an_unknown_as_a_whole(self):
        for claim in (("and", ()), ("or", ()), ("not", ("or", ())), ("and", (("or", ()), ("and", ())))):
            with self.subTest(claim):
                self.assertFalse(is_right(claim))
                self.assertTrue(is_right(("or", (claim, IS))))

    def test_parts(self):
        for many, right in ((1, True), (28, True), (29, True), (30, False), (31, False), (1000, False)):
            with self.subTest(many):
                self.assertEqual(is_right(("and", (IS,) * many)), right)
                self.assertEqual(is_right(("or", (IS,) + (("and", ()),) * (many - 1))), right)

    def test_parts_are_counted_at_all_levels(self):
        pairs = ("and", (("not", IS),) * 13)
        self.assertTrue(is_right(("or", (IS, FROM, pairs))))
        self.assertFalse(is_right(("or", (IS, FROM, IS, pairs))))
        self.assertTrue(is_right(("not", ("or", (IS, pairs)))))
        self.assertFalse(is_right(("not", ("not", ("or", (IS, pairs))))))
        threes = ("or", (("and", (IS, FROM)),) * 4)
        self.assertTrue(is_right(("and", (threes, threes, IS, IS, IS))))
        self.assertFalse(is_right(("and", (threes, threes, IS, IS, IS, IS))))

    def test_levels(self):
        for depth, right in ((0, True), (4, True), (5, True), (6, False), (7, False), (26, False)):
            with self.subTest(depth):
                self.assertEqual(is_right(nested_not(depth, IS)), right)
                claim = IS
                for k in range(min(depth, 12)):
                    claim = (("and", "or")[k % 2], (claim,))
                self.assertEqual(is_right(claim), right)

    def test_empty_claims_are_a_level_too(self):
        for word in ("and", "or"):
            self.assertTrue(is_right(("and", (IS, nested_not(4, (word, ()))))))
            self.assertFalse(is_right(("and", (IS, nested_not(5, (word, ()))))))

    def test_the_deepest_part_counts(self):
        self.assertTrue(is_right(("or", (IS, nested_not(4, FROM), IS))))
        self.assertFalse(is_right(("or", (IS, nested_not(5, FROM), IS))))
        self.assertFalse(is_right(("or", (nested_not(5, FROM), IS))))
        self.assertFalse(is_right(("or", (IS, nested_not(5, FROM)))))

    def test_broad_and_deep_ones(self):
        claim = IS
        for _ in range(9):
            claim = ("and", (claim, claim, claim))
            self.assertEqual(is_right(claim), claim == ("and", (IS,) * 3) or claim[1][0] == ("and", (IS,) * 3))
        self.assertFalse(is_right(("and", (("and", (IS,) * 100),) * 100)))

    def test_a_claim_may_name_an_unknown_again(self):
        self.assertTrue(is_right(("and", (IS, IS, ("from", "a", 0), ("not", IS)))))

    def test_the_claim_of_a_when_may_speak_of_unknowns_of_its_saying(self):
        self.assertIsNone(fault(model_with(("when", ("and", (IS, FROM)), ("unlike", ("a", "b"))))))

    def test_an_unknown_counts_once_for_what_is_small(self):
        unknowns = (("a", tuple(range(12))), ("b", tuple(range(12))))
        claim = ("and", (("is", "a", 0), ("is", "a", 1), ("from", "a", 2), ("is", "b", 1), ("is", "b", 2)))
        self.assertIsNone(fault(model_with(("claim", claim), unknowns)))
