"""Finding the open rows of a pattern, for views and marks alike.

Both have rows, mark(row), shuts(pattern): whether it is plain that no row of the pattern is open, and
column(table, at): the worths of a column beside which a row's mark depends on its worth's rest alone.
"""

from soonestsaid.patterns import STAR, covers, deciding_worths, new_worth, next_choices
from soonestsaid.rows import sorted_things, worths_of


class Deciding:
    """Chooses so few worths for each column that the least open row of each kind is among the rows."""

    def __init__(self, modulus, bases):
        self.modulus = modulus
        self.bases = bases
        self._found = {}

    def choices(self, table, at, _):
        """Returns the worths that matter in the column, and of each rest the least other one, ascending."""
        if (table, at) not in self._found:
            worths = [worth for basis in self.bases for worth in basis.column(table, at)]
            self._found[(table, at)] = deciding_worths(sorted_things(worths), self.modulus)
        return self._found[(table, at)]


class Typical:
    """Chooses worths so that the rows are the typical ones beside the known worths."""

    def __init__(self, modulus, known):
        self.known = known
        self.firsts = [new_worth(known, rest, modulus) for rest in range(modulus)]

    def choices(self, _table, _at, chosen):
        """Returns the worths that may stand behind those chosen so far."""
        return next_choices(chosen, self.known, self.firsts)


def open_rows(basis, pattern, chooser, chosen=()):
    """Yields the open rows of a pattern whose stars are filled with the chooser's worths."""
    table, cells = pattern
    if STAR not in cells:
        if basis.mark(pattern) == "open":
            yield pattern
        return
    if basis.shuts(pattern):
        return
    at = cells.index(STAR)
    for worth in chooser.choices(table, at, chosen):
        narrowed = (table, (*cells[:at], worth, *cells[at + 1:]))
        yield from open_rows(basis, narrowed, chooser, (*chosen, worth))


def least_open(basis, modulus, pattern):
    """Returns the least possible row of the pattern that is open, or None."""
    chooser = Deciding(modulus, [basis])
    for row in open_rows(basis, pattern, chooser):
        return row
    return None


def emptiness(basis, modulus, pattern):
    """Returns "no" if a row of the pattern is there, "yes" if each one lacks, else "open"."""
    if any([covers(pattern, row) for row in basis.rows]):
        return "no"
    return "yes" if least_open(basis, modulus, pattern) is None else "open"


def typical_open(basis, modulus, known, pattern):
    """Returns the open ones among the typical rows of the pattern beside the known worths and its own."""
    chooser = Typical(modulus, sorted_things([*known, *worths_of([pattern])]))
    return sorted_things(list(open_rows(basis, pattern, chooser)))


def column_worths(rows, table, at):
    """Returns a list of the worths that rows or patterns of the table have in a column."""
    return [cells[at] for other, cells in rows if other == table and cells[at] != STAR]
