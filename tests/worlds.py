"""Views and marks by the words of the promises: what they say of rows is found by trying many of them."""

import itertools

from soonestsaid.dealings import Dealing
from soonestsaid.views import View
from soonestsaid.wholes import Whole
from tests.helpers import drawn_pattern, drawn_row

FAR = 10 ** 60


def matches(pattern, row):
    return pattern[0] == row[0] and all(cell in (-1, worth) for cell, worth in zip(pattern[1], row[1]))


def worths_in(patterns):
    return {cell for _, cells in patterns for cell in cells if cell != -1}


class World:
    """What some wholes, and assumptions beside them, say of rows."""

    def __init__(self, dealing, wholes, there=(), lacking=(), empties=(), known=()):
        self.dealing = dealing
        self.wholes = {house: whole for house, whole in wholes}
        self.there, self.lacking, self.empties = tuple(there), tuple(lacking), tuple(empties)
        self.heard = {row for whole in self.wholes.values() for row in whole.rows}
        self.rows = tuple(sorted(self.heard | set(self.there)))
        seals = [seal for whole in self.wholes.values() for seal in whole.seals]
        self.worths = sorted({
            *worths_in(self.rows), *worths_in(seals), *dealing.special, *known, *worths_in(self.lacking),
            *worths_in(self.empties)})

    def mark(self, row):
        if row in self.rows:
            return "there"
        for house, whole in self.wholes.items():
            if house in self.dealing.homes(row) and any(matches(seal, row) for seal in whole.seals):
                return "lacking"
        if row in self.lacking or any(matches(pattern, row) for pattern in self.empties):
            return "lacking"
        return "open"

    def fillers(self, modulus=None, worths=None):
        """The known worths, and of each rest the least other ones and one beyond all."""
        found = set(self.worths if worths is None else worths)
        least = max(found, default=0) + 1
        modulus = modulus or self.dealing.modulus
        free = [worth for worth in range(len(found) + modulus) if worth not in found]
        return sorted(found | set(range(least, least + modulus)) | {
            min(worth for worth in [*free, *range(least, least + modulus)] if worth % modulus == rest)
            for rest in range(modulus)})

    def rows_of(self, pattern, fillers=None):
        fillers = fillers or self.fillers()
        columns = [fillers if cell == -1 else [cell] for cell in pattern[1]]
        return [(pattern[0], worths) for worths in itertools.product(*columns)]

    def all_rows(self, fillers=None):
        return [row for table, width in enumerate(self.dealing.tables)
                for row in self.rows_of((table, (-1,) * width), fillers)]

    def empty(self, pattern):
        if any(matches(pattern, row) for row in self.rows):
            return "no"
        return "yes" if all(self.mark(row) == "lacking" for row in self.rows_of(pattern)) else "open"

    def lacks(self, row):
        return self.mark(row) == "lacking"

    def without(self, pattern):
        return self.empty(pattern) == "yes"

    def lets(self, rows):
        return set(self.rows) <= set(rows) and not any(self.mark(row) == "lacking" for row in rows)

    def beside(self, there=(), lacking=(), empties=()):
        """The same world with further assumptions; what was known stays known."""
        return World(self.dealing, self.wholes.items(), self.there + there, self.lacking + lacking,
                     self.empties + empties, self.worths)


def world_of(view, known=()):
    return World(view.dealing, view.wholes, known=known)


def small_dealing(draw, tables, special=(0, 1, 2), most_houses=3, most_modulus=3, most_exceptions=2):
    houses = draw.randint(1, most_houses)
    modulus = draw.randint(1, most_modulus)
    accepts = []
    for table, width in enumerate(tables):
        for rests in itertools.product(range(modulus), repeat=width):
            if draw.random() < 0.7 and len(accepts) < 30:
                accepts.append((draw.randrange(houses), table, tuple((rest,) for rest in rests)))
        # So no table is homeless.
        accepts.append((draw.randrange(houses), table, (tuple(range(modulus)),) * width))
    rows = {drawn_row(draw, tables, special) for _ in range(draw.randint(0, most_exceptions))}
    exceptions = [(row, tuple(sorted(draw.sample(range(houses), draw.randint(1, houses))))) for row in sorted(rows)]
    return Dealing(tables, houses, modulus, accepts, exceptions)


def played_wholes(draw, dealing, worths, deeds, seals=0.4, heard=0.5):
    """For each house a whole that it had at some time in a course of puts and seals."""
    now = [Whole() for _ in range(dealing.houses)]
    found = list(now)
    for _ in range(deeds):
        if draw.random() < seals:
            house = draw.randrange(dealing.houses)
            now[house] = now[house].with_seal(drawn_pattern(draw, dealing.tables, worths))
        else:
            row = drawn_row(draw, dealing.tables, worths)
            homes = dealing.homes(row)
            if all(row in now[house].rows or now[house].first_seal(row) is None for house in homes):
                for house in homes:
                    now[house] = now[house].with_row(row)
        for house in range(dealing.houses):
            if draw.random() < heard:
                found[house] = now[house]
    return found


def small_view(draw, tables, worths=(0, 1, 2), deeds=6, seals=0.4, **kinds):
    dealing = small_dealing(draw, tables, worths, **kinds)
    return View(dealing, list(enumerate(played_wholes(draw, dealing, worths, draw.randint(0, deeds), seals))))


def one_house(tables, modulus=1):
    """A dealing of one house that is a home of every row."""
    return Dealing(tables, 1, modulus, [(0, table, (tuple(range(modulus)),) * width)
                                        for table, width in enumerate(tables)])


def renamed(rows, names):
    return tuple(sorted((table, tuple(names.get(worth, worth) for worth in worths)) for table, worths in rows))
