"""Numbers of fillings, webs through which fillings go, and papers for both."""

from aswritten.books import Book
from aswritten.counting import filling_of_number, number_of_filling, product_of, times_taken
from aswritten.drafts import Draft
from aswritten.forms import is_tuple
from aswritten.judge import is_plainly_taken
from aswritten.netproofs import EndGoal, Net, Walk
from aswritten.nets import is_web, many_ways, web_of
from aswritten.notation import implied, with_side
from aswritten.partial import none_answer, parts_by_whole
from aswritten.search import all_fillings, part_model_of, parts
from aswritten.visits import names_in


def count(model):
    """Return the number of fillings that keep the model; raise TooFar by whole, as the next three do."""
    return product_of([len(part.fillings) for part in parts_by_whole(model)])


def how_often(model):
    """Return for each unknown the tuple of the numbers of fillings that have each of its values."""
    return times_taken(model, parts_by_whole(model))


def nth(model, number):
    """Return the filling with this number, counted from 0, of all that keep the model, ascending."""
    return filling_of_number(model, parts_by_whole(model), number)


def number_of(model, filling):
    """Return the number of the filling among all that keep the model, ascending."""
    return number_of_filling(model, parts_by_whole(model), filling)


def ways(web):
    """Return the number of rows of values by which one can go from the first level to the last."""
    return many_ways(web)


def least_web(model, order):
    """Return the least web by the order through which just the fillings go that keep the model; by all."""
    places = [names_in(model).index(x) for x in order]
    rows = [tuple([filling[place] for place in places]) for filling in all_fillings(model)]
    return web_of(len(order), sorted(rows))


def web_model(model, part, web):
    """Return the model of the part with the web as one further soft saying, the last one."""
    unknowns, sayings, soft = part_model_of(model, part)
    return (unknowns, sayings, soft + ((_web_name(unknowns + sayings + soft), ("web", part, web), 1),))


def _web_name(items):
    names = {item[0]: True for item in items}
    free = ["web"] + [f"web{k}" for k in range(len(items) + 1)]
    return [name for name in free if name not in names][0]


def _end_row(s, part, web):
    return ((), 1) if web[0] == () else implied([], [("stand", s, len(part), 0)])[0]


def _end_asked(book, s, part, row):
    # what is asked for a telling row: it holds for all that goes through the web
    return ("always", with_side(row, (("stand", s, len(part), 0), False)))


def count_paper(model):
    """Return for each part (web, there, back), with papers that the web is right; raise TooFar by whole."""
    return tuple([_part_paper(model, part) for part in parts_by_whole(model)])


def _part_paper(model, part):
    rows = sorted([tuple([at[x] for x in part.names]) for at in part.fillings])
    web = web_of(len(part.names), rows)
    if rows == []:
        return (web, none_answer(part.inside, part)[1], ())
    wider = web_model(model, part.names, web)
    draft = Draft(Book(wider))
    net = Net(draft, wider[2][-1][0], part.names, web)
    there = draft.paper(part.proved(draft, EndGoal(net)))[1]
    back = []
    for s, saying in part.inside[1]:
        papers = []
        for row in draft.book.listed("tells", s):
            number = draft.ruled(row, []) if row[1] == 0 else Walk(net, len(draft.steps), row).told()
            papers.append(draft.paper(number)[1])
        back.append(tuple(papers))
    return (web, there, tuple(back))


def judge_count(model, number, value):
    """Tell whether any value is such a tuple, of right webs and papers, and the webs have so many ways."""
    lots = parts(model)
    if not is_tuple(value, len(lots), len(lots)) or not all([is_tuple(item, 3, 3) for item in value]):
        return False
    if not all([_is_part_taken(model, part, item) for part, item in zip(lots, value)]):
        return False
    return number == product_of([many_ways(item[0]) for item in value])


def _is_part_taken(model, part, item):
    web, there, back = item
    inner = part_model_of(model, part)
    if not is_web([domain for x, domain in inner[0]], web) or not is_tuple(back, 0, len(inner[1])):
        return False
    if web[0] == ():
        return back == () and is_plainly_taken(Book(inner), ("none",), there)
    wider = web_model(model, part, web)
    s = wider[2][-1][0]
    book = Book(wider)
    if len(back) != len(inner[1]) or not is_plainly_taken(book, ("row", _end_row(s, part, web)), there):
        return False
    return all([_are_taken(book, s, part, name, papers) for (name, saying), papers in zip(inner[1], back)])


def _are_taken(book, s, part, name, papers):
    rows = book.listed("tells", name)
    if not is_tuple(papers, len(rows), len(rows)):
        return False
    return all([is_plainly_taken(book, _end_asked(book, s, part, row), paper) for row, paper in zip(rows, papers)])
