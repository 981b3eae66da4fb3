"""Reasons: papers for what a log takes out, and for dead ends."""

from aswritten.books import Book
from aswritten.cases import gone_sides
from aswritten.drafts import Draft
from aswritten.striking import lefts_of
from aswritten.whys import chain_steps, lefts_before, why_step


def reason(model, state, log, k):
    """Return (row, paper): why the entry number k of the log is taken out, by its saying alone."""
    draft = Draft(Book(model))
    before = lefts_before(lefts_of(model, state), log[:k + 1])
    return draft.paper(_entry_step(draft, log, before, k))


def _entry_step(draft, log, before, k):
    x, v, s = log[k]
    return why_step(draft, s, before[k], x, v)


def dead_end(model, state, log):
    """Return (row, paper): why the values that are left cannot be all, for a log that leaves some unknown none."""
    draft = Draft(Book(model))
    domains = draft.book.domains
    lefts = lefts_of(model, state)
    before = lefts_before(lefts, log)
    numbers = chain_steps(draft, domains, log, lambda k: _entry_step(draft, log, before, k))
    return draft.paper(draft.led(gone_sides(domains, list(domains), lefts), [], numbers))
