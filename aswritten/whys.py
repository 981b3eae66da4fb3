"""Why values do not stand: the steps for cases of each sort of saying, and for values struck out one by one."""

from aswritten.cases import Case
from aswritten.casework import bar_steps, branch_steps, claim_steps, counts_steps, pick_steps, product_steps, sum_steps
from aswritten.casework import table_steps, top_steps, unlike_steps
from aswritten.claims import claim_names
from aswritten.forms import are_small
from aswritten.sayings import own_names
from aswritten.standing import Said
from aswritten.striking import Striker
from aswritten.walks import ahead_steps, machine_steps, round_steps, works_steps


def why_step(draft, s, lefts, x, v):
    """Put the clause: x has not the value v, which does not stand in the saying s, or has some value that is gone."""
    saying = draft.book.sayings[s]
    case = Case(draft, s, saying, lefts, x, v)
    if are_small(draft.book.domains, own_names(saying)):
        return draft.told(s, case.gone, case.front + [case.goal])
    return _clause_step(case)


def _clause_step(case):
    steps_of = _STEPS[case.saying[0]]
    numbers = steps_of(case)
    return case.draft.led(case.gone + case.front, [case.goal], numbers)


def chain_steps(draft, domains, entries, explain):
    """Return the steps that rule out, one by one, the values of the unknown that the entries (x, v, ..) empty.

    explain puts the clause for the entry of a number; entries on which nothing hangs are passed over.
    """
    x = entries[-1][0]
    needed = {("is", x, v): True for v in domains[x]}
    numbers = []
    for k in reversed(range(len(entries))):
        if ("is", entries[k][0], entries[k][1]) in needed:
            number = explain(k)
            numbers.append(number)
            needed.update({sign: True for (sign, worth), c in draft.rows[number][0] if worth})
    numbers.reverse()
    return numbers + [draft.given(("one", x, 0))]


def lefts_before(lefts, entries):
    """Return for each entry (x, v, ..) what is left when those before it are taken out."""
    before = []
    for entry in entries:
        before.append(lefts)
        x, v = entry[:2]
        lefts = {**lefts, x: tuple([w for w in lefts[x] if w != v])}
    return before


def lefts_at(lefts, entries):
    """Return what is left when the values of the entries (x, v, ..) are taken out."""
    gone = {(entry[0], entry[1]): True for entry in entries}
    return {x: tuple([v for v in values if (x, v) not in gone]) for x, values in lefts.items()}


def when_steps(case):
    """Return the steps for a "when": with v its claim is surely true, but its inner saying does not let v stand."""
    claim, inner = case.saying[1:]
    opened = _opened_step(case, claim)
    if Said(case.domains, case.saying).is_surely_true(case.all_lefts):
        inner_case = Case(case.draft, case.s, inner, case.all_lefts, case.x, case.v)
        steps_of = _STEPS[inner[0]]
        return [opened] + steps_of(inner_case)
    # else the inner saying cannot hold at all
    striker = Striker({case.s: Said(case.domains, inner)})
    entries = striker.strike_out({x: values for x, values in case.all_lefts.items()})
    before = lefts_before(case.all_lefts, entries)
    return [opened] + chain_steps(case.draft, case.domains, entries, lambda k: _inner_step(case, before, entries, k))


def _inner_step(case, before, entries, k):
    x, v = entries[k][:2]
    return _clause_step(Case(case.draft, case.s, case.saying[2], before[k], x, v))


def _opened_step(case, claim):
    # the claim is true where x has the value v and the other unknowns have values that are left
    opened = ("if", case.s)
    sides = [(opened, True)]
    numbers = branch_steps(case, claim_names(claim), sides, lambda signs: case.sign_if(signs, [opened]))
    return case.led(sides, numbers)


_STEPS = {
    "least": sum_steps,
    "same": sum_steps,
    "unlike": unlike_steps,
    "counts": counts_steps,
    "table": table_steps,
    "bar": bar_steps,
    "pick": pick_steps,
    "top": top_steps,
    "product": product_steps,
    "ahead": ahead_steps,
    "machine": machine_steps,
    "works": works_steps,
    "round": round_steps,
    "claim": claim_steps,
    "when": when_steps,
}
