"""Numbers of fillings, from the lists of the fillings of each part."""


def product_of(numbers):
    """Return the product of a list of integers."""
    total = 1
    for number in numbers:
        total = total * number
    return total


def times_taken(model, searched):
    """Return for each unknown the tuple of the numbers of fillings of the model that have each of its values."""
    counts = [len(part.fillings) for part in searched]
    told = {}
    for k, part in enumerate(searched):
        others = product_of(counts[:k] + counts[k + 1:])
        for x in part.names:
            values = [at[x] for at in part.fillings]
            told[x] = tuple([others * values.count(v) for v in part.domains[x]])
    return tuple([told[x] for x, domain in model[0]])


class Going:
    """Going through the unknowns of a model, one by one, with the fillings of each part that have the values so far."""

    def __init__(self, searched):
        self._lots = [part.fillings for part in searched]
        self._place = {x: k for k, part in enumerate(searched) for x in part.names}

    def many_with(self, x, v):
        """Return the number of fillings that have the value v of x besides the values so far."""
        others = [len(lot) for k, lot in enumerate(self._lots) if k != self._place[x]]
        return len([at for at in self._lots[self._place[x]] if at[x] == v]) * product_of(others)

    def take(self, x, v):
        """Let x have the value v from now on."""
        self._lots[self._place[x]] = [at for at in self._lots[self._place[x]] if at[x] == v]


def filling_of_number(model, searched, number):
    """Return the filling with this number, counted from 0."""
    going = Going(searched)
    filling = []
    for x, domain in model[0]:
        for v in domain:
            many = going.many_with(x, v)
            if number < many:
                going.take(x, v)
                filling.append(v)
                break
            number = number - many
    return tuple(filling)


def number_of_filling(model, searched, filling):
    """Return the number of the filling."""
    going = Going(searched)
    number = 0
    for (x, domain), v in zip(model[0], filling):
        number = number + sum([going.many_with(x, w) for w in domain if w < v])
        going.take(x, v)
    return number
