"""Desks: one course, and the questions that are asked about it."""

from soonestsaid.courses import Course, is_deed_word
from soonestsaid.errors import BadDeed, FullDesk, NoQuestion, SayError, TakenName
from soonestsaid.needs import find_need
from soonestsaid.nets import Net
from soonestsaid.questions import Question, is_name
from soonestsaid.rows import is_sequence, is_whole
from soonestsaid.sparing import sparing_net
from soonestsaid.spread import carried_fault, unmet_lot

MOST_QUESTIONS = 4
# What stands behind the word of each deed that is none of a net.
PARTS = {
    "ask": ("new", "rules"), "drop": ("name",), "told": ("name", "house"), "need": ("name",), "dealt": ("name",),
    "carries": ("name", "name")}


class Trial:
    """What deeds would tell, up to the first one that would be refused, and the place of that one."""

    def __init__(self, tolds, refused):
        self.tolds = tolds
        self.refused = refused

    def __eq__(self, other):
        return isinstance(other, Trial) and self.tolds == other.tolds and self.refused == other.refused


class Desk:
    """Up to four questions about one course, each with a net of its own."""

    def __init__(self, dealing, sparing=False):
        self.dealing = dealing
        self.sparing = sparing
        self.course = ()
        self.questions = ()
        self.log = ()
        self._play = Course(dealing)
        self._nets = {}

    def __eq__(self, other):
        return (isinstance(other, Desk) and self.dealing == other.dealing and self.sparing == other.sparing
                and self.course == other.course and self.questions == other.questions)

    def __len__(self):
        return len(self.log)

    def __iter__(self):
        return iter(self.log)

    def twin(self):
        """Returns a desk that stands where this one does and goes on by itself."""
        other = Desk(self.dealing, self.sparing)
        other.course = self.course
        other.questions = self.questions
        other.log = self.log
        other._play = self._play.twin()
        other._nets = {name: net.twin() for name, net in self._nets.items()}
        return other

    def do_deed(self, deed):
        """Does a deed and returns what it told.

        Raises BadDeed, TakenName, NoQuestion, FullDesk, BadQuestion, NotFlat, NotOfRows, NoDeed, Sealed.
        """
        if not is_sequence(deed, 1) or not isinstance(deed[0], str):
            raise BadDeed()
        if is_deed_word(deed[0]):
            plain, told = self._do_in_nets(deed)
        else:
            self._check(deed)
            plain, told = self._do_here(deed)
        self.log = (*self.log, (plain, told))
        return told

    def trial_deeds(self, deeds):
        """Returns the Trial of what deeds would tell, done one by one."""
        other = self.twin()
        tolds = []
        for place, deed in enumerate(deeds):
            try:
                tolds.append(other.do_deed(deed))
            except SayError:
                return Trial(tuple(tolds), place)
        return Trial(tuple(tolds), None)

    def _do_in_nets(self, deed):
        """Does a deed of a net in the net of each question; returns it in plain tuples, and what it told."""
        # A net takes just what the course takes, so either all nets do the deed or none.
        plain = self._play.checked(deed)
        told = []
        for name, _ in self.questions:
            told.extend([(name, house, fact) for house, fact in self._nets[name].do(plain)])
        self._play.note(plain)
        self.course = self._play.deeds
        return (plain, tuple(told))

    def _check(self, deed):
        """Raises BadDeed, TakenName, NoQuestion or FullDesk for a deed that is none of a net."""
        if deed[0] not in PARTS or len(deed) != 1 + len(PARTS[deed[0]]):
            raise BadDeed()
        kinds = PARTS[deed[0]]
        for kind, thing in zip(kinds, deed[1:]):
            if not self._is_part(kind, thing):
                raise BadDeed()
        for kind, thing in zip(kinds, deed[1:]):
            if kind == "new" and thing in self._nets:
                raise TakenName(thing)
            if kind == "name" and thing not in self._nets:
                raise NoQuestion(thing)
        if "new" in kinds and len(self.questions) >= MOST_QUESTIONS:
            raise FullDesk()

    def _is_part(self, kind, thing):
        """Returns whether thing has the form of a name or of a house; rules are looked at later."""
        if kind == "house":
            return is_whole(thing, 0, self.dealing.houses - 1)
        return kind == "rules" or is_name(thing)

    def _do_here(self, deed):
        """Does a deed that was checked and is none of a net; returns it in plain tuples, and what it told."""
        if deed[0] == "ask":
            return self._put_question(deed[1], deed[2])
        if deed[0] == "drop":
            self._take_away(deed[1])
            return (tuple(deed), ())
        return (tuple(deed), self._looked_up(deed))

    def _put_question(self, name, rules):
        """Asks a question of the whole course; returns the deed, and all that the houses have told."""
        question = Question(self.dealing.tables, rules)
        net = sparing_net(question, self.dealing) if self.sparing else Net(question, self.dealing)
        net.run(self.course)
        self._nets[name] = net
        self.questions = (*self.questions, (name, question))
        told = [(name, house.house, fact) for house in net.houses for fact in house.told]
        return (("ask", name, question.rules), tuple(told))

    def _take_away(self, name):
        """Drops a question."""
        del self._nets[name]
        self.questions = tuple([couple for couple in self.questions if couple[0] != name])

    def _looked_up(self, deed):
        """Returns what a deed tells that changes nothing; raises NotFlat, NotOfRows."""
        net = self._nets[deed[1]]
        if deed[0] == "told":
            return net.houses[deed[2]].told
        if deed[0] == "need":
            return find_need(net.question).word
        if deed[0] == "dealt":
            return unmet_lot(net.question, self.dealing)
        carry = carried_fault(net.question, self._nets[deed[2]].question)
        return None if carry is None else carry.lot
