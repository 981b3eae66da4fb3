"""Short ways to write signs and rows in tests."""


def sign(text):
    """"is x 1" is ("is", "x", 1)."""
    return tuple(int(word) if word.lstrip("-").isdigit() else word for word in text.split())


def row(text):
    """"is x 1, if s -> from y 2" is the row of this notation; "->" alone has no parts."""
    front, behind = text.split("->")
    parts = [((sign(word), False), 1) for word in front.split(",") if word.strip()]
    parts += [((sign(word), True), 1) for word in behind.split(",") if word.strip()]
    return (tuple(sorted(parts)), 1)


def rows(text):
    """The tuple of the rows that stand in the lines of text, each "a -> b" or "2 is x 1 + 3 not is y 2 >= 4"."""
    return tuple(row(line) if "->" in line else total(line) for line in text.splitlines() if line.strip())


def total(text):
    """"2 is x 1 + 3 not is y 2 >= 4" is the row of these parts; ">= 0" has none."""
    front, least = text.split(">=")
    parts = []
    for word in front.split("+"):
        if word.strip():
            c, *words = word.split()
            worth = words[0] != "not"
            parts.append(((sign(" ".join(words if worth else words[1:])), worth), int(c)))
    return (tuple(sorted(parts)), int(least))


def paper(*steps, head=((), (), (), ())):
    return (head, steps)


def typed(value):
    """A text that tells True from 1, too."""
    return repr(value)
