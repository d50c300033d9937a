"""Courses: which deeds can be done, where they happen and who knows of them, whatever houses tell."""

from soonestsaid.errors import NoDeed, Sealed
from soonestsaid.patterns import STAR
from soonestsaid.rows import fault_of_cells, is_sequence, is_whole, plain_row, sorted_things
from soonestsaid.wholes import Whole

# What stands behind the word of each deed.
PARTS = {
    "put": ("row",), "seal": ("house", "pattern"), "send": ("house", "house"), "hand": ("letter",),
    "double": ("letter",), "lose": ("letter",), "stop": ("house",)}
LEAST_CELLS = {"row": 0, "pattern": STAR}


def is_deed_word(thing):
    """Returns whether thing is the word of a deed."""
    return isinstance(thing, str) and thing in PARTS


def has_deed_form(thing):
    """Returns whether thing is the word of a deed and as many things as belong behind it."""
    return is_sequence(thing, 1) and is_deed_word(thing[0]) and len(thing) == 1 + len(PARTS[thing[0]])


def plain_deed(deed):
    """Returns a deed of the right form, whose parts may be lists, as tuples."""
    kinds = PARTS[deed[0]]
    return (deed[0], *[plain_row(thing) if kind in LEAST_CELLS else thing for kind, thing in zip(kinds, deed[1:])])


class Course:
    """The deeds done over a dealing, and all that follows from them alone."""

    def __init__(self, dealing):
        self.dealing = dealing
        self.deeds = ()
        self.way = ()
        self.stopped = ()
        self.rows = ()
        # For each letter its sender, its receiver, the deed that made it, and the beginnings that the sender knew.
        self.letters = []
        # For each house, how many of the deeds that happened at each house it knows of.
        self.beginnings = [(0,) * dealing.houses for _ in range(dealing.houses)]
        self._happened = [() for _ in range(dealing.houses)]
        self._sealed = [Whole() for _ in range(dealing.houses)]

    def twin(self):
        """Returns an equal course, which goes on by itself."""
        other = Course(self.dealing)
        other.deeds = self.deeds
        other.way = self.way
        other.stopped = self.stopped
        other.rows = self.rows
        other.letters = list(self.letters)
        other.beginnings = list(self.beginnings)
        other._happened = list(self._happened)
        other._sealed = list(self._sealed)
        return other

    def checked(self, deed):
        """Returns a deed that can be done now in plain tuples; raises NoDeed, Sealed."""
        at = len(self.deeds)
        if not has_deed_form(deed):
            raise NoDeed("shape", at)
        for kind, thing in zip(PARTS[deed[0]], deed[1:]):
            if not self._is_part(kind, thing):
                raise NoDeed(kind, at)
        plain = plain_deed(deed)
        if plain[0] == "send" and plain[1] == plain[2]:
            raise NoDeed("self", at)
        doers = self._doers(plain)
        if doers and all([house in self.stopped for house in doers]):
            raise NoDeed("stopped", at)
        if plain[0] == "put" and plain[1] not in self.rows:
            self._check_seals(plain[1])
        return plain

    def _is_part(self, kind, thing):
        """Returns whether thing can stand where a house, a letter, a row or a pattern should."""
        if kind == "house":
            return is_whole(thing, 0, self.dealing.houses - 1)
        if kind == "letter":
            return is_whole(thing) and thing in self.way
        return fault_of_cells(self.dealing.tables, thing, LEAST_CELLS[kind]) is None

    def _doers(self, deed):
        """Returns the houses of which one at least must not have stopped."""
        if deed[0] == "put":
            return self.dealing.homes(deed[1])
        return (deed[1],) if deed[0] in ("seal", "send", "stop") else ()

    def _check_seals(self, row):
        """Raises Sealed if a home of the row, stopped or not, has sealed a pattern over it."""
        for house in self.dealing.homes(row):
            seal = self._sealed[house].first_seal(row)
            if seal is not None:
                raise Sealed(seal)

    def happens_at(self, deed):
        """Returns a list of the houses at which a deed happens that can be done now."""
        word, first = deed[0], deed[1]
        houses = ()
        if word == "put" and first not in self.rows:
            houses = self.dealing.homes(first)
        elif word == "seal":
            houses = (first,)
        elif word == "hand":
            houses = (self.letters[first][1],)
        return [house for house in houses if house not in self.stopped]

    def note(self, deed):
        """Does a deed that can be done now."""
        word, first = deed[0], deed[1]
        for house in self.happens_at(deed):
            self._note_at(house, deed)
        if word == "put":
            self.rows = sorted_things((*self.rows, first))
        elif word == "seal":
            self._sealed[first] = self._sealed[first].with_seal(deed[2])
        elif word == "send":
            self._add_letter(first, deed[2], self.beginnings[first])
        elif word == "double":
            sender, receiver, _, carried = self.letters[first]
            self._add_letter(sender, receiver, carried)
        elif word == "stop":
            self.stopped = sorted_things((*self.stopped, first))
        else:
            self.way = tuple([number for number in self.way if number != first])
        self.deeds = (*self.deeds, deed)

    def _note_at(self, house, deed):
        """Notes that a deed happens at a house."""
        known = self.beginnings[house]
        if deed[0] == "hand":
            known = [max(one, other) for one, other in zip(known, self.letters[deed[1]][3])]
        self.beginnings[house] = tuple([many + 1 if other == house else many for other, many in enumerate(known)])
        self._happened[house] = (*self._happened[house], len(self.deeds))

    def _add_letter(self, sender, receiver, carried):
        """Sets a letter on the way."""
        self.way = (*self.way, len(self.letters))
        self.letters.append((sender, receiver, len(self.deeds), carried))

    def past_of(self, house):
        """Returns the course numbers of the deeds that a house knows of, and of what made the letters handed there."""
        found = {}
        for numbers, many in zip(self._happened, self.beginnings[house]):
            for number in numbers[:many]:
                found[number] = True
                if self.deeds[number][0] == "hand":
                    for source in self._sources(self.deeds[number][1]):
                        found[source] = True
        return sorted_things(list(found))

    def _sources(self, letter):
        """Returns a list of the course numbers of the doubles from which a letter came, and of the send."""
        found = [self.letters[letter][2]]
        while self.deeds[found[-1]][0] == "double":
            found.append(self.letters[self.deeds[found[-1]][1]][2])
        return found
