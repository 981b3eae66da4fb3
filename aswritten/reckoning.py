"""What steps make of rows: sums, quotients, and looking at rows till one clashes."""

from aswritten.rows import norm


def summed(rows, pairs):
    """Return the sum of the rows with the numbers of the pairs (number, m), each m times."""
    # gathered first, as a long row may be told very many times
    times = {}
    for number, m in pairs:
        times[number] = times.get(number, 0) + m
    sides = []
    least = 0
    for number, m in times.items():
        parts, n = rows[number]
        sides.extend([(side, c * m) for side, c in parts])
        least += n * m
    return norm(tuple(sides), least)


def divided(row, d):
    """Return the row with all its numbers divided by d and rounded up."""
    parts, least = row
    return (tuple([(side, -(-c // d)) for side, c in parts]), -(-least // d))


def trimmed_row(row):
    """Return the row with no c greater than the least."""
    parts, least = row
    return (tuple([(side, min(c, least)) for side, c in parts if least > 0]), least)


def weakened(row, sign):
    """Return the row without the part of the sign, or None if there is none."""
    parts, least = row
    rest = tuple([part for part in parts if part[0][0] != sign])
    gone = sum([c for side, c in parts]) - sum([c for side, c in rest])
    return None if gone == 0 else (rest, max(0, least - gone))


def look(settled, row):
    """Settle what the row forces and return True, or return False if it clashes.

    settled is a dict that has for each settled sign whether it holds.
    """
    parts, least = row
    slack = -least
    for (sign, worth), c in parts:
        if settled.get(sign, worth) == worth:
            slack += c
    if slack < 0:
        return False
    for (sign, worth), c in parts:
        if c > slack and sign not in settled:
            settled[sign] = worth
    return True


def clashes_last(rows):
    """Tell whether of the rows, looked at one by one, the last one clashes and none before it."""
    settled = {}
    for row in rows[:-1]:
        if not look(settled, row):
            return False
    return not look(settled, rows[-1])
