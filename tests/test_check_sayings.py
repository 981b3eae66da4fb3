"""[5]: the form of each kind of saying, at its bounds and just beyond them."""

import unittest

from tests.samples import fault, model_with, model_with_soft, nested

# x0 to x13 have two values, y0 and y1 have twelve, z0 has one
UNKNOWNS = tuple((f"x{k}", (0, 1)) for k in range(14)) + (("y0", tuple(range(12))), ("y1", tuple(range(12))))
UNKNOWNS += (("z0", (5,)),)
XS = tuple(f"x{k}" for k in range(14))
CLAIM = ("is", "x0", 1)


def rows(many):
    """So many ascending rows of three values."""
    return tuple((k // 10 - 3, k % 10, 0) for k in range(many))


def moves(many):
    return tuple((k // 10, k % 10, 11) for k in range(many))


RIGHT = {
    "least": [
        ("least", (("x0", 1),), 0), ("least", tuple((x, -100) for x in XS[:12]), -1000000),
        ("least", (("x1", 100), ("x0", 100)), 1000000), ("least", (("y0", -1), ("y1", 1)), -1),
    ],
    "same": [
        ("same", (("x0", 1),), 0), ("same", tuple((x, 100) for x in XS[:12]), 1000000),
        ("same", (("x1", -100), ("x0", 100)), -1000000),
    ],
    "unlike": [("unlike", ("x0",)), ("unlike", XS[:12]), ("unlike", ("x3", "x1", "y0"))],
    "counts": [
        ("counts", ("x0",), ((0, 0, 0),)), ("counts", XS[:12], tuple((v, 0, 12) for v in range(12))),
        ("counts", ("x1", "x0"), ((-200, 12, 12), (200, 0, 12))), ("counts", ("x0",), ((0, 3, 3), (1, 0, 0))),
    ],
    "table": [
        ("table", ("x0",), ()), ("table", XS[:6], ((0,) * 6,)), ("table", XS[:3], rows(60)),
        ("table", ("y1", "y0"), ((-200, 200), (200, -200))), ("table", ("x0", "x1"), ((0, 0), (0, 1), (1, 0))),
    ],
    "bar": [
        ("bar", ("x0",), ()), ("bar", XS[:3], rows(60)), ("bar", ("y0", "y1"), ()), ("bar", XS[:6], ((0,) * 6,)),
    ],
    "pick": [("pick", "x0", ("x1",), "x2"), ("pick", "x13", XS[:12], "x12"), ("pick", "z0", ("y0",), "x0")],
    "top": [("top", ("x0",), "x1"), ("top", XS[1:13], "x0")],
    "product": [("product", "x0", "x1", "x2"), ("product", "y0", "y1", "z0"), ("product", "z0", "y0", "x0")],
    "ahead": [("ahead", ("x0",), ("x1",)), ("ahead", XS[:6], XS[6:12])],
    "machine": [
        ("machine", ("x0",), 0, (), ()), ("machine", XS[:12], 11, moves(40), tuple(range(12))),
        ("machine", ("x0",), 3, ((0, -200, 11), (0, 200, 0)), (11,)), ("machine", ("x0",), 0, ((0, 0, 5),), (0, 2)),
    ],
    "works": [
        ("works", ("x0",), (1,), (0,), 0), ("works", XS[:12], (50,) * 12, (100,) * 12, 1200),
        ("works", ("x0", "x1"), (50, 1), (0, 100), 7),
    ],
    "round": [("round", ("x0",)), ("round", XS[:12])],
    "claim": [("claim", CLAIM)],
    "when": [("when", CLAIM, ("unlike", ("x0", "x1"))), ("when", CLAIM, ("claim", CLAIM))],
}

WRONG = {
    "least": [
        ("least", (), 0), ("least", tuple((x, 1) for x in XS[:13]), 0), ("least", (("x0", 101),), 0),
        ("least", (("x0", -101),), 0), ("least", (("x0", 0),), 0), ("least", (("x0", True),), 0),
        ("least", (("x0", 1),), 1000001), ("least", (("x0", 1),), -1000001), ("least", (("x0", 1),), True),
        ("least", (("x0", 1),), None), ("least", (("x0", 1), ("x0", 2)), 0), ("least", (("x0", 1), ("x0", 1)), 0),
        ("least", (("q", 1),), 0), ("least", (("said", 1),), 0), ("least", ((1, "x0"),), 0), ("least", (("x0",),), 0),
        ("least", (("x0", 1, 1),), 0), ("least", ("x0", 1), 0), ("least", (("x0", 1),)), ("least", (("x0", 1),), 0, 0),
        ("least", ("x0",), 0), ("least", "x0", 0), ("least", ((("x0",), 1),), 0), ("least", (("x0", "1"),), 0),
        ("least", (("x0", (1,)),), 0), ("least", ((True, 1),), 0), ("least", None, 0), ("least", ("ab",), 0),
    ],
    "same": [
        ("same", (), 0), ("same", tuple((x, 1) for x in XS[:13]), 0), ("same", (("x0", 101),), 0),
        ("same", (("x0", 0),), 0), ("same", (("x0", 1),), 1000001), ("same", (("x0", 1),), False),
        ("same", (("x0", 1), ("x0", -1)), 0), ("same", (("x0", 1),)), ("same", (("x0", 1),), 0, 0),
        ("same", (("x0", False),), 0), ("same", (("said", 1),), 0),
    ],
    "unlike": [
        ("unlike", ()), ("unlike", XS[:13]), ("unlike", ("x0", "x0")), ("unlike", ("x0", "x1", "x0")),
        ("unlike", ("q",)), ("unlike", ("x0", "said")), ("unlike", "x0"), ("unlike", ("x0", 1)), ("unlike",),
        ("unlike", ("x0",), ()), ("unlike", (("x0",),)), ("unlike", None), ("unlike", (None,)), ("unlike", ("",)),
        ("unlike", "x0", "x1"), ("unlike", (nested(20),)), ("unlike", nested(20)),
    ],
    "counts": [
        ("counts", ("x0",), ()), ("counts", XS[:12], tuple((v, 0, 12) for v in range(13))), ("counts", (), ((0, 0, 0),)),
        ("counts", XS[:13], ((0, 0, 0),)), ("counts", ("x0", "x0"), ((0, 0, 0),)), ("counts", ("x0",), ((-201, 0, 0),)),
        ("counts", ("x0",), ((201, 0, 0),)), ("counts", ("x0",), ((0, -1, 0),)), ("counts", ("x0",), ((0, 2, 1),)),
        ("counts", ("x0",), ((0, 0, 13),)), ("counts", ("x0",), ((0, 13, 13),)), ("counts", ("x0",), ((0, 0),)),
        ("counts", ("x0",), ((0, 0, 0, 0),)), ("counts", ("x0",), ((1, 0, 0), (0, 0, 0))),
        ("counts", ("x0",), ((0, 0, 0), (0, 0, 0))), ("counts", ("x0",), ((0, 0, 0), (0, 0, 1))),
        ("counts", ("x0",), ((False, 0, 0),)), ("counts", ("x0",), ((0, False, 1),)),
        ("counts", ("x0",), ((0, 0, True),)), ("counts", ("x0",), (0, 0, 0)), ("counts", ("x0",), ("abc",)),
        ("counts", ("x0",)), ("counts", ("x0",), ((0, 0, 0),), 0), ("counts", ("x0",), ((0, None, 0),)),
        ("counts", ("x0",), ((0, 0, None),)), ("counts", ("q",), ((0, 0, 0),)), ("counts", ("x0",), None),
        ("counts", ("x0",), ((0, "0", 1),)), ("counts", ("x0",), ((0, 0, (1,)),)),
    ],
    "table": [
        ("table", (), ()), ("table", XS[:7], ()), ("table", ("x0", "x0"), ()), ("table", ("q",), ()),
        ("table", XS[:3], rows(61)), ("table", ("x0",), ((0, 0),)), ("table", ("x0", "x1"), ((0,),)),
        ("table", ("x0",), ((201,),)), ("table", ("x0",), ((-201,),)), ("table", ("x0",), ((1,), (0,))),
        ("table", ("x0",), ((0,), (0,))), ("table", ("x0", "x1"), ((0, 1), (0, 0))), ("table", ("x0",), ((True,),)),
        ("table", ("x0",), ((0,), (True,))), ("table", ("x0",), (0,)), ("table", ("x0",), ("0",)), ("table", ("x0",)),
        ("table", ("x0",), (), ()), ("table", ("x0",), None), ("table", "x0", ()), ("table", ("x0",), ((None,),)),
        ("table", ("x0", "x1"), ((0, 0), "01")), ("table", ("x0",), (((0,),),)), ("table", ("x0",), ((),)),
        ("table", ("x0",), (nested(20),)), ("table", ("x0",), (("0",),)),
    ],
    "bar": [
        ("bar", (), ()), ("bar", XS[:7], ()), ("bar", ("x0", "x0"), ()), ("bar", XS[:3], rows(61)),
        ("bar", ("x0",), ((1,), (0,))), ("bar", ("x0",), ((0, 0),)), ("bar", ("y0", "y1", "x0"), ()),
        ("bar", ("x0",), ((True,),)), ("bar", ("x0",)), ("bar", ("x0",), (), ()), ("bar", ("x0",), ((201,),)),
    ],
    "pick": [
        ("pick", "x0", (), "x2"), ("pick", "x13", XS[:13], "y0"), ("pick", "x0", ("x0",), "x2"),
        ("pick", "x0", ("x1",), "x0"), ("pick", "x0", ("x1",), "x1"), ("pick", "x0", ("x1", "x1"), "x2"),
        ("pick", "q", ("x1",), "x2"), ("pick", "x0", ("q",), "x2"), ("pick", "x0", ("x1",), "q"),
        ("pick", ("x0",), ("x1",), "x2"), ("pick", "x0", "x1", "x2"), ("pick", "x0", ("x1",), ("x2",)),
        ("pick", "x0", ("x1",)), ("pick", "x0", ("x1",), "x2", "x3"), ("pick", 0, ("x1",), "x2"),
        ("pick", "x0", ("x1",), None), ("pick", "x0", (True,), "x2"),
    ],
    "top": [
        ("top", (), "x1"), ("top", XS[:13], "y0"), ("top", ("x0",), "x0"), ("top", ("x0", "x0"), "x1"),
        ("top", ("q",), "x1"), ("top", ("x0",), "q"), ("top", "x0", "x1"), ("top", ("x0",), ("x1",)), ("top", ("x0",)),
        ("top", ("x0",), "x1", "x2"), ("top", ("x0", None), "x1"), ("top", ("x0",), 1), ("top", "x1", ("x0",)),
    ],
    "product": [
        ("product", "x0", "x0", "x1"), ("product", "x0", "x1", "x0"), ("product", "x0", "x1", "x1"),
        ("product", "x0", "x1", "q"), ("product", "y0", "y1", "x0"), ("product", "x0", "x1"),
        ("product", "x0", "x1", "x2", "x3"), ("product", ("x0", "x1", "x2")), ("product", "x0", "x1", None),
        ("product", "x0", "x1", ("x2",)), ("product", 0, 1, 0), ("product", "x0", "x1", True),
    ],
    "ahead": [
        ("ahead", (), ()), ("ahead", XS[:7], XS[7:14]), ("ahead", ("x0",), ("x0",)), ("ahead", ("x0", "x0"), XS[1:3]),
        ("ahead", ("x0",), ("x1", "x2")), ("ahead", ("x0", "x1"), ("x2",)), ("ahead", ("x0", "x1"), ("x2", "x0")),
        ("ahead", ("x0", "x1"), ("x2", "x2")), ("ahead", ("q",), ("x0",)), ("ahead", ("x0",), ("q",)),
        ("ahead", "x0", "x1"), ("ahead", "x", "y"), ("ahead", ("x0",)), ("ahead", ("x0",), ("x1",), ("x2",)),
        ("ahead", ("x0",), None), ("ahead", None, ("x0",)), ("ahead", ("x0",), ()), ("ahead", (), ("x0",)),
        ("ahead", ("x0",), (1,)), ("ahead", ((),), ("x0",)),
    ],
    "machine": [
        ("machine", (), 0, (), ()), ("machine", XS[:13], 0, (), ()), ("machine", ("x0", "x0"), 0, (), ()),
        ("machine", ("x0",), -1, (), ()), ("machine", ("x0",), 12, (), ()), ("machine", ("x0",), False, (), ()),
        ("machine", ("x0",), 0, moves(41), ()), ("machine", ("x0",), 0, ((0, 0, 12),), ()),
        ("machine", ("x0",), 0, ((12, 0, 0),), ()), ("machine", ("x0",), 0, ((-1, 0, 0),), ()),
        ("machine", ("x0",), 0, ((0, 201, 0),), ()), ("machine", ("x0",), 0, ((0, -201, 0),), ()),
        ("machine", ("x0",), 0, ((0, 0, 0), (0, 0, 1)), ()), ("machine", ("x0",), 0, ((0, 0, 0), (0, 0, 0)), ()),
        ("machine", ("x0",), 0, ((1, 0, 0), (0, 0, 0)), ()), ("machine", ("x0",), 0, ((0, 1, 0), (0, 0, 0)), ()),
        ("machine", ("x0",), 0, ((0, 0),), ()), ("machine", ("x0",), 0, ((0, 0, 0, 0),), ()),
        ("machine", ("x0",), 0, ((0, True, 0),), ()), ("machine", ("x0",), 0, ((False, 0, 0),), ()),
        ("machine", ("x0",), 0, ((0, 0, True),), ()), ("machine", ("x0",), 0, (0, 0, 0), ()),
        ("machine", ("x0",), 0, ("abc",), ()), ("machine", ("x0",), 0, (), (12,)), ("machine", ("x0",), 0, (), (-1,)),
        ("machine", ("x0",), 0, (), (1, 0)), ("machine", ("x0",), 0, (), (1, 1)), ("machine", ("x0",), 0, (), (True,)),
        ("machine", ("x0",), 0, (), tuple(range(13))), ("machine", ("x0",), 0, (), 0), ("machine", ("x0",), 0, ()),
        ("machine", ("x0",), 0, (), (), ()), ("machine", ("q",), 0, (), ()), ("machine", ("x0",), None, (), ()),
        ("machine", ("x0",), 0, None, ()), ("machine", ("x0",), 0, (None,), ()), ("machine", ("x0",), 0, (), (None,)),
        ("machine", ("x0",), 0, (), ("0",)), ("machine", ("x0",), 0, ((0, "0", 0),), ()),
    ],
    "works": [
        ("works", (), (), (), 0), ("works", XS[:13], (1,) * 13, (1,) * 13, 0), ("works", ("x0",), (0,), (0,), 0),
        ("works", ("x0",), (51,), (0,), 0), ("works", ("x0",), (1,), (-1,), 0), ("works", ("x0",), (1,), (101,), 0),
        ("works", ("x0",), (1,), (0,), -1), ("works", ("x0",), (1,), (0,), 1201), ("works", ("x0",), (1, 1), (0,), 0),
        ("works", ("x0",), (1,), (0, 0), 0), ("works", ("x0",), (), (0,), 0), ("works", ("x0",), (1,), (), 0),
        ("works", ("x0", "x1"), (1,), (0,), 0), ("works", ("x0", "x0"), (1, 1), (0, 0), 0),
        ("works", ("x0",), (True,), (0,), 0), ("works", ("x0",), (1,), (True,), 0), ("works", ("x0",), (1,), (0,), True),
        ("works", ("x0",), (1,), (0,)), ("works", ("x0",), (1,), (0,), 0, 0), ("works", ("x0",), 1, 0, 0),
        ("works", ("x0",), "1", (0,), 0), ("works", ("q",), (1,), (0,), 0), ("works", ("x0",), (None,), (0,), 0),
        ("works", ("x0",), (1,), (None,), 0), ("works", ("x0",), (1,), (0,), None),
    ],
    "round": [
        ("round", ()), ("round", XS[:13]), ("round", ("x0", "x0")), ("round", ("q",)), ("round", "x0"), ("round",),
        ("round", ("x0",), 0), ("round", (0,)), ("round", None),
    ],
    "claim": [("claim",), ("claim", CLAIM, CLAIM), ("claim", None), ("claim", ()), ("claim", (CLAIM,))],
    "when": [
        ("when",), ("when", CLAIM), ("when", CLAIM, None), ("when", CLAIM, CLAIM), ("when", CLAIM, ()),
        ("when", CLAIM, ("when", CLAIM, ("unlike", ("x0",)))), ("when", CLAIM, ("unlike", ("x0", "x0"))),
        ("when", None, ("unlike", ("x0",))), ("when", ("unlike", ("x0",)), CLAIM),
        ("when", CLAIM, ("unlike", ("x0",)), ("unlike", ("x0",))), ("when", CLAIM, (("unlike", ("x0",)),)),
        ("when", CLAIM, ("unlike", ("q",))), ("when", ("is", "q", 0), ("unlike", ("x0",))),
        ("when", CLAIM, ("claim", ("and", ()))), ("when", ("and", ()), ("unlike", ("x0",))),
        ("when", CLAIM, ("said", ("unlike", ("x0",)))),
    ],
}

OTHER = [
    (), ("",), ("least",), ("Least", (("x0", 1),), 0), ("sum", (("x0", 1),), 0), (("least",), (("x0", 1),), 0),
    (None, ("x0",)), (True, ("x0",)), (0, ("x0",)), "least", "unlike", None, True, 7, (("unlike", ("x0",)),),
    ("is", "x0", 1), ("web", ("x0",), ()), nested(25), ("least", nested(20), 0), (nested(20), ("x0",)),
]


class Kinds(unittest.TestCase):
    def test_right_sayings(self):
        for word, sayings in RIGHT.items():
            for saying in sayings:
                with self.subTest(saying):
                    self.assertIsNone(fault(model_with(saying, UNKNOWNS)))
                    self.assertIsNone(fault(model_with_soft(saying, UNKNOWNS)))

    def test_wrong_sayings(self):
        for word, sayings in WRONG.items():
            for saying in sayings:
                with self.subTest(saying):
                    self.assertEqual(fault(model_with(saying, UNKNOWNS)), ("sayings", 0))
                    self.assertEqual(fault(model_with_soft(saying, UNKNOWNS)), ("soft", 0))

    def test_what_is_right_and_wrong_alone_is_so_within_a_when(self):
        for word in RIGHT:
            for saying in RIGHT[word]:
                within = None if word != "when" else ("sayings", 0)
                with self.subTest(saying):
                    self.assertEqual(fault(model_with(("when", CLAIM, saying), UNKNOWNS)), within)
            for saying in WRONG[word]:
                with self.subTest(saying):
                    self.assertEqual(fault(model_with(("when", CLAIM, saying), UNKNOWNS)), ("sayings", 0))

    def test_what_has_another_form(self):
        for saying in OTHER:
            with self.subTest(saying):
                self.assertEqual(fault(model_with(saying, UNKNOWNS)), ("sayings", 0))
                self.assertEqual(fault(model_with_soft(saying, UNKNOWNS)), ("soft", 0))
                self.assertEqual(fault(model_with(("when", CLAIM, saying), UNKNOWNS)), ("sayings", 0))

    def test_whens_far_within_one_another(self):
        saying = ("unlike", ("x0",))
        for _ in range(27):
            saying = ("when", CLAIM, saying)
            self.assertEqual(fault(model_with(saying, UNKNOWNS)) is None, saying[2][0] == "unlike")


def sized(*sizes):
    """Unknowns a, b, .. with domains of these sizes."""
    return tuple(("abcdefghijkl"[k], tuple(range(size))) for k, size in enumerate(sizes))


class Small(unittest.TestCase):
    def test_a_product_of_256_is_small_and_more_is_not(self):
        for saying in (("bar", ("a", "b", "c"), ()), ("product", "a", "b", "c"),
                       ("claim", ("or", (("is", "a", 0), ("is", "b", 0), ("from", "c", 0)))),
                       ("when", ("and", (("is", "c", 0), ("is", "a", 0), ("is", "b", 9))), ("unlike", ("d",)))):
            for sizes, is_right in (((8, 8, 4, 12), True), ((4, 8, 8, 12), True), ((12, 7, 3, 12), True),
                                    ((8, 11, 3, 1), False), ((12, 11, 2, 1), False), ((9, 6, 5, 1), False),
                                    ((5, 5, 11, 1), False), ((12, 12, 12, 1), False)):
                with self.subTest((saying, sizes)):
                    told = None if is_right else ("sayings", 0)
                    self.assertEqual(fault(model_with(saying, sized(*sizes))), told)
                    inner = saying[2] if saying[0] == "when" else saying
                    within = model_with(("when", ("is", "d", 0), inner), sized(*sizes))
                    self.assertEqual(fault(within), None if inner is not saying else told)

    def test_an_inner_saying_is_small_without_the_unknowns_of_the_claim(self):
        claim = ("or", (("is", "d", 0), ("is", "e", 0)))
        for inner in (("bar", ("a", "b", "c"), ()), ("product", "a", "b", "c"),
                      ("claim", ("and", (("is", "a", 0), ("is", "b", 0), ("is", "c", 0))))):
            self.assertIsNone(fault(model_with(("when", claim, inner), sized(8, 8, 4, 12, 12))))
            self.assertEqual(fault(model_with(("when", claim, inner), sized(8, 8, 5, 2, 2))), ("sayings", 0))

    def test_the_claim_of_a_when_is_small_without_its_inner_saying(self):
        unlike = ("unlike", ("a", "b", "c", "d", "e"))
        claim = ("and", (("is", "a", 0), ("is", "b", 0), ("is", "c", 0)))
        self.assertIsNone(fault(model_with(("when", claim, unlike), sized(8, 8, 4, 12, 12))))
        self.assertEqual(fault(model_with(("when", claim, unlike), sized(8, 8, 5, 2, 2))), ("sayings", 0))

    def test_the_other_kinds_need_not_be_small(self):
        xs = tuple("abcdefghijkl")
        for saying in (("least", tuple((x, 1) for x in xs), 0), ("same", tuple((x, 1) for x in xs), 0),
                       ("unlike", xs), ("counts", xs, ((0, 0, 0),)), ("table", xs[:6], ()), ("pick", "a", xs[1:11], "l"),
                       ("top", xs[1:], "a"), ("ahead", xs[:6], xs[6:]), ("machine", xs, 0, (), ()),
                       ("works", xs, (1,) * 12, (1,) * 12, 0), ("round", xs)):
            with self.subTest(saying):
                self.assertIsNone(fault(model_with(saying, sized(*[12] * 12))))
