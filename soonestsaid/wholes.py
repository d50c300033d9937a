"""Wholes: what one house holds at one time."""

from soonestsaid.errors import Forked, Sealed
from soonestsaid.patterns import covers
from soonestsaid.rows import plain_row, plain_rows


class Whole:
    """The rows of a house, and the patterns that it has sealed."""

    def __init__(self, rows=(), seals=()):
        self.rows = plain_rows(rows)
        self.seals = plain_rows(seals)

    def has_row(self, row):
        """Returns whether the row is among the rows."""
        return row in self.rows

    def first_seal(self, row):
        """Returns the least seal that covers the row, or None."""
        for seal in self.seals:
            if covers(seal, row):
                return seal
        return None

    def with_row(self, row):
        """Returns the whole with the row added; raises Sealed if the row is new and under a seal."""
        plain = plain_row(row)
        if self.has_row(plain):
            return self
        seal = self.first_seal(plain)
        if seal is not None:
            raise Sealed(seal)
        return Whole((*self.rows, plain), self.seals)

    def with_seal(self, pattern):
        """Returns the whole with the seal added."""
        return Whole(self.rows, (*self.seals, pattern))

    def refused_by(self, other):
        """Returns the least row of this whole that the other one lacks and has sealed, or None."""
        for row in self.rows:
            if not other.has_row(row) and other.first_seal(row) is not None:
                return row
        return None

    def grown(self, other):
        """Returns whether the other whole can have grown out of this one."""
        rows = all([other.has_row(row) for row in self.rows])
        seals = all([seal in other.seals for seal in self.seals])
        return rows and seals and other.refused_by(self) is None

    def joined(self, other):
        """Returns the whole with all that the two have; raises Forked if none can have grown out of both."""
        refused = [row for row in (self.refused_by(other), other.refused_by(self)) if row is not None]
        if refused:
            raise Forked(min(refused))
        return Whole(self.rows + other.rows, self.seals + other.seals)

    def __eq__(self, other):
        return isinstance(other, Whole) and self.rows == other.rows and self.seals == other.seals
