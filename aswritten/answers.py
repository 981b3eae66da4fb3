"""Answers with papers: a filling, what each value can be, the best, the unbeaten, and classes."""

from aswritten.books import Book
from aswritten.drafts import Draft
from aswritten.goals import BesideGoal, NoGoal
from aswritten.models import domains_of
from aswritten.partial import dead_part, joined_filling, none_answer, parts_by_first, parts_by_whole
from aswritten.proofs import Proof
from aswritten.search import all_fillings
from aswritten.striking import striker_of
from aswritten.turns import class_of
from aswritten.visits import names_in
from aswritten.wishes import worths
from aswritten.worthparts import best_answer


def solve(model):
    """Return ("filling", filling), or ("none", paper); raise TooFar by first."""
    searched = parts_by_first(model)
    dead = dead_part(searched)
    if dead is not None:
        return none_answer(model, dead)
    return ("filling", joined_filling(model, [part.fillings[0] for part in searched]))


def every(model):
    """Return for each unknown the tuple of pairs (value, answer): a filling, or a paper for never; by whole."""
    searched = parts_by_whole(model)
    dead = dead_part(searched)
    draft = Draft(Book(model))
    if dead is not None:
        number = dead.proved(draft, NoGoal())
        return tuple([tuple([(v, _never(draft, x, v, number)) for v in domain]) for x, domain in model[0]])
    answers = {}
    for part in searched:
        proof = part.proof(draft)
        for x in part.names:
            answers[x] = tuple([(v, _value_answer(model, searched, part, draft, proof, x, v)) for v in part.domains[x]])
    return tuple([answers[x] for x in names_in(model)])


def _never(draft, x, v, number):
    row = (((("is", x, v), False), 1),), 1
    if draft.rows[number] != row:
        number = draft.ruled(row, [number])
    return ("never", draft.paper(number)[1])


def _value_answer(model, searched, part, draft, proof, x, v):
    having = [at for at in part.fillings if at[x] == v]
    if having == []:
        return _never(draft, x, v, proof.proved_without(x, v))
    chosen = [having[0] if other.names == part.names else other.fillings[0] for other in searched]
    return ("filling", joined_filling(model, chosen))


def best(model, wishes):
    """Return ("best", worths, filling, paper), or ("none", paper); raise TooFar by whole."""
    return best_answer(model, wishes)


def unbeaten(model, wishes):
    """Return ("unbeaten", pairs of worths and fillings, paper), or ("none", paper); raise TooFar by all."""
    fillings = all_fillings(model)
    draft = Draft(Book(model))
    if fillings == ():
        return ("none", draft.paper(_proved(model, draft, NoGoal()))[1])
    found = {}
    for filling in fillings:
        found.setdefault(worths(model, wishes, filling), filling)
    pairs = tuple([(told, found[told]) for told in sorted(found) if not _is_beaten(told, found)])
    kept = tuple([filling for told, filling in pairs])
    number = _proved(model, draft, BesideGoal(draft, wishes, kept))
    return ("unbeaten", pairs, (((), (), wishes, kept), draft.steps_to(number)))


def _proved(model, draft, goal):
    striker = striker_of(model, tuple([s for s, saying in model[1]]))
    return Proof(draft, striker, names_in(model), domains_of(model)).proved(goal)


def _is_beaten(told, others):
    return any([other != told and all([a <= b for a, b in zip(other, told)]) for other in others])


def classes(model, exchanges):
    """Return the ascending tuple of the classes of all fillings that keep the model; raise TooFar by all."""
    told = []
    seen = {}
    for filling in all_fillings(model):
        if filling not in seen:
            told.append(class_of(model, exchanges, filling))
            seen.update({other: True for other in told[-1]})
    return tuple(sorted(told))
