"""Sparing houses: they tell of seals only where somebody asked."""

from soonestsaid.houses import House
from soonestsaid.letters import Letter
from soonestsaid.needs import known_worths
from soonestsaid.nets import Net
from soonestsaid.patterns import covers
from soonestsaid.rows import cut_rows, sorted_things
from soonestsaid.wholes import Whole


def ask_for(question, view, fact, rows):
    """Returns what could still take away an answer of the view's rows, rows being a foil: a row, else a pattern."""
    further = [row for row in cut_rows(rows, known_worths(question, view.rows)) if row not in view.rows]
    if further:
        return min(further)
    broken = [pattern for pattern in question.patterns if covers_any(pattern, rows)]
    return min([pattern for pattern in broken if not covers_any(pattern, view.rows)])


def covers_any(pattern, rows):
    """Returns whether the pattern covers one of the rows."""
    return any([covers(pattern, row) for row in rows])


class Sparing(House):
    """A house that hands on all rows, but seals only where it knows of an ask."""

    def __init__(self, question, dealing, house):
        super().__init__(question, dealing, house)
        self.asks = ()
        self._ask()

    def twin(self):
        """Returns a house that stands where this one does and goes on by itself."""
        other = Sparing(self.question, self.dealing, self.house)
        self._lend(other)
        other.asks = self.asks
        return other

    def _ask(self):
        """Asks for what could still take away each answer of the view's rows that is not sure."""
        wanted = [ask_for(self.question, self.view, fact, rows) for fact, rows in self._kept.foils]
        self.asks = sorted_things([*self.asks, *wanted])

    def put(self, row):
        """Lays a row here; returns the answers newly told. Raises BadRow, NoHome, Sealed, Torn."""
        told = super().put(row)
        self._ask()
        return told

    def seal(self, pattern):
        """Takes no new row of the pattern from now on; returns the answers newly told. Raises BadPattern, Torn."""
        told = super().seal(pattern)
        self._ask()
        return told

    def hear(self, letter):
        """Joins what a letter tells of other houses, and its asks; returns the answers newly told.

        Raises Forked, Torn.
        """
        # What others know of this house is what it knows itself, but with asked patterns in the place of its seals.
        wholes = [(house, whole) for house, whole in letter.wholes if house != self.house]
        told = super().hear(Letter(letter.sender, wholes))
        self.asks = sorted_things([*self.asks, *letter.asks])
        self._ask()
        return told

    def letter(self, receiver):
        """Returns the letter that stands now, with the asked seals alone; raises NoHouse."""
        whole_letter = super().letter(receiver)
        wholes = [(house, Whole(whole.rows, self._asked(whole))) for house, whole in whole_letter.wholes]
        spared = tuple([(house, whole) for house, whole in wholes if whole.rows or whole.seals])
        return Letter(self.house, spared, self.asks)

    def _asked(self, whole):
        """Returns a list of the asked patterns that a seal of the whole covers."""
        return [ask for ask in self.asks if any([covers(seal, ask) for seal in whole.seals])]


def sparing_net(question, dealing):
    """Returns a net of sparing houses; raises BadDealing."""
    return Net(question, dealing, [Sparing(question, dealing, house) for house in range(dealing.houses)])
