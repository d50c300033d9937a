"""Houses: each tells an answer of its question as soon as it is sure."""

from soonestsaid.errors import BadDealing, NoHome, NoHouse
from soonestsaid.keptsure import Kept
from soonestsaid.letters import Letter
from soonestsaid.patterns import check_pattern
from soonestsaid.rows import check_row, is_whole, sorted_things
from soonestsaid.views import View


class Said:
    """An answer that a house told, when it did, and a paper that shows that it was sure by then."""

    def __init__(self, moment, answer, paper):
        self.moment = moment
        self.answer = answer
        self.paper = paper

    def __eq__(self, other):
        return (isinstance(other, Said) and self.moment == other.moment and self.answer == other.answer
                and self.paper == other.paper)


class House:
    """One house of a dealing, which has told exactly the answers that are sure in its view."""

    def __init__(self, question, dealing, house):
        if question.tables != dealing.tables:
            raise BadDealing("tables", 0)
        if not is_whole(house, 0, dealing.houses - 1):
            raise NoHouse(house)
        self.question = question
        self.dealing = dealing
        self.house = house
        self.view = View(dealing)
        self.moment = 0
        self.log = ()
        self._kept = Kept(question)
        self._tell()

    @property
    def told(self):
        """All answers told so far, ascending."""
        return sorted_things([said.answer for said in self.log])

    def twin(self):
        """Returns a house that stands where this one does and goes on by itself."""
        other = House(self.question, self.dealing, self.house)
        self._lend(other)
        return other

    def _lend(self, other):
        """Lets another house of this question and number stand where this one does."""
        other.view = self.view
        other.moment = self.moment
        other.log = self.log
        other._kept = self._kept.twin()

    def _tell(self):
        """Tells the answers that are sure by now, and returns those that were not told before."""
        found = self._kept.look(self.view)
        self.log = (*self.log, *[Said(self.moment, answer, paper) for answer, paper in found])
        return tuple([answer for answer, _ in found])

    def _done(self, view):
        """Ends a deed that leads to this view."""
        changed = view != self.view
        self.view = view
        self.moment += 1
        # In the same view the same answers are sure.
        return self._tell() if changed else ()

    def _view_with(self, whole):
        """Returns the view in which this house has the whole; raises Torn."""
        return View(self.dealing, [(house, whole if house == self.house else self.view.whole_of(house))
                                   for house in range(self.dealing.houses)])

    def put(self, row):
        """Lays a row here; returns the answers newly told. Raises BadRow, NoHome, Sealed, Torn."""
        plain = check_row(self.question.tables, row)
        if self.house not in self.dealing.homes(plain):
            raise NoHome(plain)
        return self._done(self._view_with(self.view.whole_of(self.house).with_row(plain)))

    def seal(self, pattern):
        """Takes no new row of the pattern from now on; returns the answers newly told. Raises BadPattern, Torn."""
        plain = check_pattern(self.question.tables, pattern)
        return self._done(self._view_with(self.view.whole_of(self.house).with_seal(plain)))

    def hear(self, letter):
        """Joins what a letter tells to the view; returns the answers newly told. Raises Forked, Torn."""
        return self._done(self.view.joined(View(self.dealing, letter.wholes)))

    def letter(self, receiver):
        """Returns the letter that stands now, the same for every receiver; raises NoHouse."""
        if not is_whole(receiver, 0, self.dealing.houses - 1):
            raise NoHouse(receiver)
        return Letter(self.house, self.view.wholes, ())
