"""Dealings: which houses are the homes of each possible row."""

from soonestsaid.errors import BadDealing, BadRow, BadTables
from soonestsaid.patterns import STAR, deciding_worths, picks, star_patterns
from soonestsaid.rows import check_row, check_tables, is_sequence, is_whole, sorted_things, worths_of

MOST_HOUSES = 5
MOST_MODULUS = 3
MOST_ACCEPTS = 40
MOST_EXCEPTIONS = 8


def is_climbing(things, most):
    """Returns whether things is a sequence of one or more numbers from 0 to most, strictly ascending."""
    if not is_sequence(things, 1) or not all([is_whole(thing, 0, most) for thing in things]):
        return False
    return all([low < high for low, high in zip(things, things[1:])])


def plain_accept(tables, houses, modulus, entry):
    """Returns an entry of accepts in plain tuples, or None if it is at fault."""
    if not is_sequence(entry, 3, 3):
        return None
    house, table, rests = entry
    if not is_whole(house, 0, houses - 1) or not is_whole(table, 0, len(tables) - 1):
        return None
    if not is_sequence(rests, tables[table], tables[table]):
        return None
    if not all([is_climbing(column, modulus - 1) for column in rests]):
        return None
    return (house, table, tuple([tuple(column) for column in rests]))


def plain_exception(tables, houses, entry):
    """Returns an entry of exceptions in plain tuples, or None if it is at fault by itself."""
    if not is_sequence(entry, 2, 2) or not is_climbing(entry[1], houses - 1):
        return None
    try:
        row = check_row(tables, entry[0])
    except BadRow:
        return None
    return (row, tuple(entry[1]))


def check_accepts(tables, houses, modulus, accepts):
    """Returns the accepts in plain tuples, ascending, each once, or raises BadDealing."""
    if not is_sequence(accepts, 0, MOST_ACCEPTS):
        raise BadDealing("accepts", 0)
    found = []
    for at, entry in enumerate(accepts):
        accept = plain_accept(tables, houses, modulus, entry)
        if accept is None:
            raise BadDealing("accept", at)
        found.append(accept)
    return sorted_things(found)


def check_exceptions(tables, houses, exceptions):
    """Returns the exceptions in plain tuples, ascending, or raises BadDealing."""
    if not is_sequence(exceptions, 0, MOST_EXCEPTIONS):
        raise BadDealing("exceptions", 0)
    groups = {}
    for at, entry in enumerate(exceptions):
        exception = plain_exception(tables, houses, entry)
        if exception is None or exception[0] in groups:
            raise BadDealing("exception", at)
        groups[exception[0]] = exception[1]
    return tuple(sorted(groups.items()))


def groups_of_rests(tables, modulus, accepts):
    """Returns a dict: for each table and choice of rests the houses that accept it; raises BadDealing if none does."""
    groups = {}
    for table, width in enumerate(tables):
        for rests in picks([list(range(modulus))] * width):
            taking = [house for house, other, columns in accepts if other == table and takes(columns, rests)]
            if not taking:
                raise BadDealing("homeless", table)
            groups[(table, rests)] = sorted_things(taking)
    return groups


def takes(columns, rests):
    """Returns whether each rest is among those of its column."""
    return all([rest in column for column, rest in zip(columns, rests)])


class Dealing:
    """Says for every possible row which houses are its homes."""

    def __init__(self, tables, houses, modulus, accepts, exceptions=()):
        try:
            self.tables = check_tables(tables)
        except BadTables:
            raise BadDealing("tables", 0) from None
        if not is_whole(houses, 1, MOST_HOUSES):
            raise BadDealing("houses", 0)
        if not is_whole(modulus, 1, MOST_MODULUS):
            raise BadDealing("modulus", 0)
        self.houses = houses
        self.modulus = modulus
        self.accepts = check_accepts(self.tables, houses, modulus, accepts)
        self.exceptions = check_exceptions(self.tables, houses, exceptions)
        self.special = worths_of([row for row, _ in self.exceptions])
        self._by_rests = groups_of_rests(self.tables, modulus, self.accepts)
        self._by_row = dict(self.exceptions)

    def homes(self, row):
        """Returns the houses that are a home of the row."""
        if row in self._by_row:
            return self._by_row[row]
        return self._by_rests[(row[0], tuple([worth % self.modulus for worth in row[1]]))]

    def part_of(self, rows, house):
        """Returns those of the rows of which the house is a home."""
        return sorted_things([row for row in rows if house in self.homes(row)])

    def home_groups(self, pattern):
        """Returns all groups that are the homes of a row of the pattern."""
        return sorted_things([self.homes(row) for row in self._deciding_rows(pattern)])

    def missed_row(self, group, pattern):
        """Returns the least row of the pattern without a home in the group, or None."""
        for row in self._deciding_rows(pattern):
            if not meets(group, self.homes(row)):
                return row
        return None

    def lacking_home(self, group):
        """Returns the least row of all tables without a home in the group, or None."""
        for pattern in star_patterns(self.tables):
            row = self.missed_row(group, pattern)
            if row is not None:
                return row
        return None

    def closing_groups(self, pattern):
        """Returns all least groups in which each row of the pattern has a home."""
        wanted = self.home_groups(pattern)
        closing = [group for group in groups_out_of(self.houses) if meets_all(group, wanted)]
        return sorted_things([group for group in closing if not lesser_ones(closing, group)])

    def _deciding_rows(self, pattern):
        """Returns rows of the pattern, ascending, among which is the least one of each kind that the dealing knows."""
        table, cells = pattern
        columns = [self._column(table, at) if cell == STAR else (cell,) for at, cell in enumerate(cells)]
        return [(table, picked) for picked in picks(columns)]

    def _column(self, table, at):
        """Returns the worths that the table's exceptions have in the column, and of each rest the least other one."""
        return deciding_worths([row[1][at] for row, _ in self.exceptions if row[0] == table], self.modulus)

    def __eq__(self, other):
        return (isinstance(other, Dealing) and self.tables == other.tables and self.houses == other.houses
                and self.modulus == other.modulus and self.accepts == other.accepts
                and self.exceptions == other.exceptions)


def meets(group, other):
    """Returns whether two groups have a house in common."""
    return any([house in group for house in other])


def meets_all(group, others):
    """Returns whether the group has a house in common with each of the others."""
    return all([meets(group, other) for other in others])


def groups_out_of(houses):
    """Returns a list of all groups of this many houses, the empty one too."""
    groups = [()]
    for house in range(houses):
        groups = groups + [(*group, house) for group in groups]
    return groups


def lesser_ones(groups, group):
    """Returns a list of those groups all of whose houses are in the group, but not all of the group's in them."""
    return [other for other in groups if other != group and all([house in group for house in other])]
