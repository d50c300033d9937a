"""Hearings: what a house hears in a course, note by note."""

from soonestsaid.courses import Course, plain_deed
from soonestsaid.wholes import Whole


class Hearing:
    """What each house has heard, if all of them hand on all they have, and the notes that one house makes."""

    def __init__(self, dealing, house):
        self.notes = ()
        self._house = house
        self._play = Course(dealing)
        self._known = [[Whole()] * dealing.houses for _ in range(dealing.houses)]
        # For each letter the wholes that its sender knew.
        self._carried = []

    def hear(self, deed):
        """Does a deed that a net would take."""
        for house in self._play.happens_at(deed):
            self._hear_at(house, deed)
            if house == self._house:
                self.notes = (*self.notes, self._note(deed))
        if deed[0] == "send":
            self._carried.append(list(self._known[deed[1]]))
        elif deed[0] == "double":
            self._carried.append(self._carried[deed[1]])
        self._play.note(deed)

    def _hear_at(self, house, deed):
        """Adds what a deed brings to a house."""
        word, known = deed[0], self._known[house]
        if word == "put":
            known[house] = known[house].with_row(deed[1])
        elif word == "seal":
            known[house] = known[house].with_seal(deed[2])
        else:
            self._known[house] = [one.joined(other) for one, other in zip(known, self._carried[deed[1]])]

    def _note(self, deed):
        """Returns the note of a deed."""
        if deed[0] != "hand":
            return (deed[0], deed[-1])
        wholes = [(house, whole.rows, whole.seals) for house, whole in enumerate(self._carried[deed[1]])
                  if whole.rows or whole.seals]
        return ("letter", self._play.letters[deed[1]][0], tuple(wholes))


def heard_by(dealing, course, house, many=None):
    """Returns the hearing of a house in the first `many` deeds of a course, or in all of them."""
    hearing = Hearing(dealing, house)
    for deed in course if many is None else course[:many]:
        hearing.hear(plain_deed(deed))
    return hearing.notes


def first_difference(one, other):
    """Returns the place of the first note in which two hearings differ, or None if they are equal."""
    for place, (note, counterpart) in enumerate(zip(one, other)):
        if note != counterpart:
            return place
    return None if len(one) == len(other) else min(len(one), len(other))
