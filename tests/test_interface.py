"""The interface as a whole: each name, its arguments, and where it is defined."""

import ast
import copy
import importlib
import inspect
import pathlib
import unittest

from aswritten import clashing, errors, keeping, texts
from aswritten.desk import Desk
from aswritten.keeping import Keeper
from tests.test_general_papers import kinds_are_plain

FUNCTIONS = {
    "models": "check_model(value) keeps_saying(model,name,filling) keeps(model,filling) unknowns_of(model,name) is_small(model,name)",
    "wishes": "check_wishes(model,value) worths(model,wishes,filling) ranges(model,wishes) joined_worth(model,wishes,filling)",
    "rows": "check_sign(model,value) sign_holds(model,sign,filling) norm(pairs,least) denial(row) row_clashes(row) "
            "row_holds(model,row,filling) check_row(model,value)",
    "givens": "sign_rows(model,s) telling_rows(model,s) given_row(model,name)",
    "turns": "check_exchange(model,value) keeps_model(model,value) keeps_wish(model,wish,value) turned(model,exchange,filling) "
             "found(model) class_of(model,exchanges,filling)",
    "judge": "judge(model,asked,value) first_fault(model,asked,value) rows_of(model,asked,paper) trimmed(model,asked,paper) "
             "forged(word,mark)",
    "pairing": "greatest_pairing(rows) short_lot(rows) placed(rows,triples)",
    "striking": "full_state(model) stands(model,state,s,x,v) strike(model,state) strike_with(model,state,names) "
                "strike_log(model,state) check_log(model,state,value)",
    "reasons": "reason(model,state,log,k) dead_end(model,state,log)",
    "search": "plain(model,order) first(model) whole(model) all_of(model) parts(model) part_model_of(model,part) all_fillings(model)",
    "answers": "solve(model) best(model,wishes) unbeaten(model,wishes) every(model) classes(model,exchanges)",
    "webs": "ways(web) least_web(model,order) count(model) how_often(model) nth(model,number) number_of(model,filling) "
            "web_model(model,part,web) count_paper(model) judge_count(model,number,value)",
    "likeness": "check_view(one,other,value) seen(one,other,view,filling) view_model(one,other,view) alike(one,other,there,back) "
                "judge_alike(one,other,there,back,value) added(model,name,saying) freed(model,name)",
    "keeping": "uses(model,asked,paper) rests(before,after,asked,paper) renamed(model,names) renamed_asked(asked,names) "
               "renamed_paper(paper,names)",
    "clashing": "part_model(model,asked,names) clashes(model,asked) judge_clashes(model,asked,value) in_all(lists) in_none(asked,lists)",
    "texts": "flatten(text) printed(model,wishes) told_by(places,names) line_clashes(text)",
}
METHODS = {
    ("keeping", "Keeper"): "__init__(model,wishes) put_unknown(name,domain) put_saying(name,saying) put_soft(name,saying,price) "
                           "change_domain(name,domain) change_saying(name,saying) change_soft(name,saying,price) drop(name) "
                           "set_wishes(wishes) undo() redo() some() best() holds(row)",
    ("desk", "Desk"): "__init__(text) answer(line)",
}
PACKAGE = pathlib.Path(errors.__file__).parent


def told(text):
    """The pairs (name, names of arguments) that the text tells."""
    pairs = []
    for word in text.split():
        name, rest = word.rstrip(")").split("(")
        pairs.append((name, [argument for argument in rest.split(",") if argument]))
    return pairs


def defined_in(module):
    return ast.parse((PACKAGE / f"{module}.py").read_text()).body


class Interface(unittest.TestCase):
    def check(self, function, arguments):
        parameters = list(inspect.signature(function).parameters.values())
        self.assertEqual([parameter.name for parameter in parameters if parameter.name != "self"], arguments)
        for parameter in parameters:
            self.assertIs(parameter.kind, inspect.Parameter.POSITIONAL_OR_KEYWORD)
            self.assertIs(parameter.default, inspect.Parameter.empty)

    def test_functions(self):
        for module, text in FUNCTIONS.items():
            names = [node.name for node in defined_in(module) if isinstance(node, ast.FunctionDef)]
            for name, arguments in told(text):
                with self.subTest(name):
                    self.assertIn(name, names)
                    self.check(getattr(importlib.import_module(f"aswritten.{module}"), name), arguments)

    def test_classes(self):
        for (module, name), text in METHODS.items():
            node = [node for node in defined_in(module) if isinstance(node, ast.ClassDef) and node.name == name][0]
            names = [item.name for item in node.body if isinstance(item, ast.FunctionDef)]
            for method, arguments in told(text):
                with self.subTest((name, method)):
                    self.assertIn(method, names)
                    self.check(getattr(getattr(importlib.import_module(f"aswritten.{module}"), name), method), arguments)

    def test_properties(self):
        keeper = Keeper(MODEL, WISHES)
        self.assertEqual((keeper.model, keeper.wishes), (MODEL, WISHES))

    def test_errors(self):
        for name, arguments in (("BadModel", ("part", "number")), ("BadView", ("number",)), ("BadText", ("line",)),
                                ("UnknownName", ("name",)), ("BadRow", ()), ("BadWish", ()), ("NothingLeft", ()), ("TooFar", ())):
            error = getattr(errors, name)
            self.assertEqual(error.__bases__, (errors.WrittenError,))
            one = error(*range(len(arguments)))
            self.assertEqual([getattr(one, argument) for argument in arguments], list(range(len(arguments))))
        self.assertEqual(errors.WrittenError.__bases__, (ValueError,))


MODEL = ((("x", (0, 1, 2)), ("y", (0, 1, 2))), (("a", ("least", (("x", 1), ("y", 1)), 2)), ("d", ("unlike", ("x", "y"))),
                                                ("e", ("claim", ("is", "x", 0))), ("f", ("claim", ("is", "y", 1)))),
         (("k", ("table", ("x", "y"), ((0, 2), (2, 0))), 2),))
WISHES = ((0, (("x", 1),), 1),)
ASKED = ("a", "e", "f")
PAPER = clashing.clashes(MODEL, ASKED)[0][0][1]
NONE = ("none",)
TEXT = texts.printed(MODEL, WISHES)
NAMES = (("x", "y"), ("y", "x"), ("a", "b"))

CALLS = {
    keeping: {
        "uses": {"model": MODEL, "asked": NONE, "paper": PAPER},
        "rests": {"before": MODEL, "after": MODEL, "asked": NONE, "paper": PAPER},
        "renamed": {"model": MODEL, "names": NAMES},
        "renamed_asked": {"asked": ("best", WISHES, (3,)), "names": NAMES},
        "renamed_paper": {"paper": PAPER, "names": NAMES},
    },
    clashing: {
        "part_model": {"model": MODEL, "asked": ASKED, "names": ("a",)},
        "clashes": {"model": MODEL, "asked": ASKED},
        "judge_clashes": {"model": MODEL, "asked": ASKED, "value": clashing.clashes(MODEL, ASKED)},
        "in_all": {"lists": clashing.clashes(MODEL, ASKED)},
        "in_none": {"asked": ASKED, "lists": clashing.clashes(MODEL, ASKED)},
    },
    texts: {
        "flatten": {"text": TEXT},
        "printed": {"model": MODEL, "wishes": WISHES},
        "told_by": {"places": texts.flatten(TEXT)[2], "names": ("u0", "s0")},
        "line_clashes": {"text": TEXT},
    },
}


class Calls(unittest.TestCase):
    def test_no_argument_is_modified_and_equal_calls_have_equal_results(self):
        for module, calls in CALLS.items():
            for name, arguments in calls.items():
                with self.subTest(name):
                    passed = copy.deepcopy(arguments)
                    first = getattr(module, name)(**passed)
                    self.assertEqual(repr(passed), repr(arguments))
                    second = getattr(module, name)(*copy.deepcopy(arguments).values())
                    self.assertEqual(repr(first), repr(second))
                    self.assertTrue(kinds_are_plain(first))

    def test_keepers_with_the_same_history_answer_alike(self):
        answers = []
        for _ in range(2):
            keeper = Keeper(model=MODEL, wishes=WISHES)
            told_now = [keeper.some(), keeper.best(), keeper.holds(((((("is", "x", 2), False), 1),), 1))]
            keeper.drop("e")
            told_now += [keeper.some(), keeper.best(), keeper.holds(row=((((("is", "x", 2), False), 1),), 1)), keeper.model]
            keeper.undo()
            told_now += [keeper.some(), keeper.best()]
            self.assertTrue(kinds_are_plain(tuple(told_now)))
            answers.append(repr(told_now))
        self.assertEqual(answers[0], answers[1])

    def test_desks_with_the_same_history_answer_alike(self):
        lines = ("best", "paper", "every u0", "paper", "drop s2", "some", "best", "paper", "say q u0 >= 1", "clashes q s0 s1 s3", "count")
        answers = []
        for _ in range(2):
            desk = Desk(text=TEXT)
            answers.append([desk.answer(line=line) for line in lines])
        self.assertEqual(answers[0], answers[1])
        self.assertTrue(all(type(answer) is str for answer in answers[0]))


