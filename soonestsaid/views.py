"""Views: what a house has heard of the houses."""

from math import lcm

from soonestsaid.covering import Covering
from soonestsaid.errors import BadPattern, BadRow, BadView, NotLet, Torn
from soonestsaid.openrows import Deciding, column_worths, emptiness, least_open, open_rows
from soonestsaid.patterns import check_patterns, star_patterns
from soonestsaid.rows import check_rows, is_sequence, is_whole, plain_rows, sorted_things, worths_of
from soonestsaid.wholes import Whole


def check_wholes(dealing, wholes):
    """Returns the couples (house, whole) as tuples, without bare wholes, or raises BadView."""
    if not is_sequence(wholes):
        raise BadView("wholes", 0)
    found = []
    least = 0
    for at, couple in enumerate(wholes):
        if not is_sequence(couple, 2, 2) or not isinstance(couple[1], Whole):
            raise BadView("couple", at)
        house, whole = couple
        if not is_whole(house, least, dealing.houses - 1):
            raise BadView("house", at)
        least = house + 1
        fault = fault_of_whole(dealing, house, whole)
        if fault is not None:
            raise BadView(fault, at)
        if whole.rows or whole.seals:
            found.append((house, whole))
    return tuple(found)


def fault_of_whole(dealing, house, whole):
    """Returns "row" or "seal" for what a house of the dealing cannot have, or None."""
    try:
        rows = check_rows(dealing.tables, whole.rows)
    except BadRow:
        return "row"
    if not all([house in dealing.homes(row) for row in rows]):
        return "row"
    try:
        check_patterns(dealing.tables, whole.seals)
    except BadPattern:
        return "seal"
    return None


class View:
    """For each house of a dealing at most one whole."""

    def __init__(self, dealing, wholes=()):
        self.dealing = dealing
        self.wholes = check_wholes(dealing, wholes)
        self.rows = sorted_things([row for _, whole in self.wholes for row in whole.rows])
        seals = [seal for _, whole in self.wholes for seal in whole.seals]
        self.worths = sorted_things([*worths_of(self.rows), *worths_of(seals), *dealing.special])
        self._there = {row: True for row in self.rows}
        self._deciding = (*self.rows, *seals, *[row for row, _ in dealing.exceptions])
        self._sealed = {house: Covering(whole.seals) for house, whole in self.wholes}
        held = {(house, row): True for house, whole in self.wholes for row in whole.rows}
        for row in self.rows:
            if [house for house in self._sealing(row) if (house, row) not in held]:
                raise Torn(row)

    def _sealing(self, row):
        """Returns a list of the homes of the row that have sealed a pattern over it."""
        return [house for house in self.dealing.homes(row) if house in self._sealed and self._sealed[house].over(row)]

    def whole_of(self, house):
        """Returns the whole of a house."""
        for other, whole in self.wholes:
            if other == house:
                return whole
        return Whole()

    def mark(self, row):
        """Returns whether a possible row is "there", "lacking" or "open"."""
        if row in self._there:
            return "there"
        return "lacking" if self._sealing(row) else "open"

    def lets(self, rows):
        """Returns whether these rows can be all rows in the end."""
        return not self._wrong_rows(rows)

    def _wrong_rows(self, rows):
        """Returns a list of the rows that are there and not among these, or lack and are."""
        given = set(rows)
        missing = [row for row in self.rows if row not in given]
        return missing + [row for row in rows if self.lacks(row)]

    def first_open(self, pattern):
        """Returns the least possible row of the pattern that is open, or None."""
        return least_open(self, self.dealing.modulus, pattern)

    def empty(self, pattern):
        """Returns "no" if a row of the pattern is there, "yes" if each possible one lacks, else "open"."""
        return emptiness(self, self.dealing.modulus, pattern)

    def lacks(self, row):
        """Returns whether the row is marked "lacking"."""
        return self.mark(row) == "lacking"

    def without(self, pattern):
        """Returns whether each possible row of the pattern lacks."""
        return self.empty(pattern) == "yes"

    def settled(self):
        """Returns the least open row of all tables, or None."""
        for pattern in star_patterns(self.dealing.tables):
            row = self.first_open(pattern)
            if row is not None:
                return row
        return None

    def shuts(self, pattern):
        """Returns whether seals over the whole pattern leave none of its rows open; False decides nothing."""
        houses = [house for house, sealed in self._sealed.items() if sealed.over(pattern)]
        return len(houses) > 0 and self.dealing.missed_row(houses, pattern) is None

    def column(self, table, at):
        """Returns a list of the worths of a column that rows, seals or exceptions have there."""
        return column_worths(self._deciding, table, at)

    def widens(self, other):
        """Returns whether all that is there in the other view is there, and all that lacks in it lacks."""
        if not all([row in self._there for row in other.rows]) or any([other.lacks(row) for row in self.rows]):
            return False
        # A worth's rest by this number tells its rests by both moduli.
        chooser = Deciding(lcm(self.dealing.modulus, other.dealing.modulus), [self, other])
        for pattern in star_patterns(self.dealing.tables):
            for row in open_rows(self, pattern, chooser):
                if other.lacks(row):
                    return False
        return True

    def joined(self, other):
        """Returns the view that has heard what both have; raises Forked, or Torn."""
        houses = range(self.dealing.houses)
        return View(self.dealing, [(house, self.whole_of(house).joined(other.whole_of(house))) for house in houses])

    def ended(self, rows):
        """Returns the view of the end in which these are all rows; raises NotLet."""
        plain = plain_rows(rows)
        wrong = self._wrong_rows(plain)
        if wrong:
            raise NotLet(min(wrong))
        ends = star_patterns(self.dealing.tables)
        wholes = [Whole(self.dealing.part_of(plain, house), (*self.whole_of(house).seals, *ends))
                  for house in range(self.dealing.houses)]
        return View(self.dealing, list(enumerate(wholes)))

    def __eq__(self, other):
        return isinstance(other, View) and self.dealing == other.dealing and self.wholes == other.wholes
