"""Nets: all houses of a dealing, and the letters between them."""

from soonestsaid.courses import Course
from soonestsaid.errors import BadDealing, BadHouses, NoHouse, NoLetter
from soonestsaid.houses import House
from soonestsaid.rows import is_sequence, is_whole


class Sent:
    """A letter that was sent or doubled; source is the course number of the deed that made it."""

    def __init__(self, sender, receiver, carried, source):
        self.sender = sender
        self.receiver = receiver
        self.carried = carried
        self.source = source

    def __eq__(self, other):
        return (isinstance(other, Sent) and self.sender == other.sender and self.receiver == other.receiver
                and self.carried == other.carried and self.source == other.source)


def check_houses(question, dealing, houses):
    """Returns the houses as a tuple, or new ones for an empty sequence; raises BadHouses."""
    if is_sequence(houses, 0, 0):
        return tuple([House(question, dealing, number) for number in range(dealing.houses)])
    if not is_sequence(houses, dealing.houses, dealing.houses):
        raise BadHouses()
    for number, house in enumerate(houses):
        if not isinstance(house, House) or house.house != number or house.moment != 0:
            raise BadHouses()
        if house.question != question or house.dealing != dealing:
            raise BadHouses()
    return tuple(houses)


class Net:
    """Plays the houses of a dealing, all of which are asked one question."""

    def __init__(self, question, dealing, houses=()):
        if question.tables != dealing.tables:
            raise BadDealing("tables", 0)
        self.question = question
        self.dealing = dealing
        self.houses = check_houses(question, dealing, houses)
        self._play = Course(dealing)
        self._carried = []
        self._show()

    def _show(self):
        """Sets what is seen of the course from outside."""
        self.course = self._play.deeds
        self.way = self._play.way
        self.stopped = self._play.stopped

    def twin(self):
        """Returns a net that stands where this one does and goes on by itself."""
        other = Net(self.question, self.dealing)
        other.houses = tuple([house.twin() for house in self.houses])
        other._play = self._play.twin()
        other._carried = list(self._carried)
        other._show()
        return other

    def do(self, deed):
        """Does a deed; returns the (house, answer) that it made houses tell. Raises NoDeed, Sealed."""
        plain = self._play.checked(deed)
        told = []
        for house in self._play.happens_at(plain):
            told.extend([(house, fact) for fact in self._done_at(self.houses[house], plain)])
        if plain[0] == "send":
            self._carried.append(self.houses[plain[1]].letter(plain[2]))
        elif plain[0] == "double":
            self._carried.append(self._carried[plain[1]])
        self._play.note(plain)
        self._show()
        return tuple(told)

    def _done_at(self, house, deed):
        """Lets a deed happen at a house; returns the answers that the house tells."""
        if deed[0] == "put":
            return house.put(deed[1])
        return house.seal(deed[2]) if deed[0] == "seal" else house.hear(self._carried[deed[1]])

    def run(self, course):
        """Does the deeds one after the other; raises what do raises, behind those that were done."""
        for deed in course:
            self.do(deed)

    def sent(self, number):
        """Returns the letter of a number as it was sent or doubled; raises NoLetter."""
        if not is_whole(number, 0, len(self._carried) - 1):
            raise NoLetter(number)
        sender, receiver, source, _ = self._play.letters[number]
        return Sent(sender, receiver, self._carried[number], source)

    def _check_house(self, house):
        """Raises NoHouse."""
        if not is_whole(house, 0, self.dealing.houses - 1):
            raise NoHouse(house)

    def begun(self, house):
        """Returns for each house how many of the deeds that happened there a house knows of; raises NoHouse."""
        self._check_house(house)
        return self._play.beginnings[house]

    def past(self, house):
        """Returns the course numbers of all deeds on which a house's hearing rests; raises NoHouse."""
        self._check_house(house)
        return self._play.past_of(house)

    def end(self):
        """Returns all rows put so far."""
        return self._play.rows


def play_course(question, dealing, course):
    """Returns a new net that has done the course; raises BadDealing, and what do raises."""
    net = Net(question, dealing)
    net.run(course)
    return net
