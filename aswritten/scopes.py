"""What the words of a text mean, and which of them may stand at a place of a line."""

from aswritten.forms import tuples_of


class World:
    """What the lines so far have told.

    sets has the tuple of the items under the name of each set; data and unknowns have the tuple of their sets under
    their names; numbers has the number of each data name and tuple of items.
    """

    def __init__(self):
        self.sets = {}
        self.data = {}
        self.unknowns = {}
        self.numbers = {}
        self._items = {}
        self._told = {}

    def is_free(self, word):
        """Tell whether the word was not told and is no item."""
        return word not in self._told and word not in self._items

    def is_told(self, word):
        """Tell whether the word stands at the head of a line."""
        return word in self._told

    def tell(self, word):
        """Let the word be one that a line has told."""
        self._told[word] = True

    def tell_set(self, word, items):
        """Tell a set."""
        self.tell(word)
        self.sets[word] = items
        self._items.update({item: True for item in items})

    def tuples(self, sets):
        """Return the list of the tuples of items of these sets, the last item changing first."""
        return tuples_of([self.sets[name] for name in sets])


class Scope:
    """A line that tells word, in a world: variables has the set of each variable that may be used.

    Without a world (None), as at a desk, there are names of unknowns alone; names has them in order.
    """

    def __init__(self, world, word):
        self.world = world
        self.names = []
        self.variables = {}
        self._word = word

    def may_tell(self, variable):
        """Tell whether the word may become a variable here."""
        return self.world.is_free(variable) and variable != self._word and variable not in self.variables
