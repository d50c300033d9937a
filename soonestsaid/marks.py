"""Marks: a view together with assumptions about its open rows."""

from soonestsaid.covering import Covering
from soonestsaid.errors import NotOpen
from soonestsaid.openrows import column_worths, emptiness
from soonestsaid.rows import sorted_things, worths_of


class Marks:
    """A view, rows that are assumed to be there or lacking, and patterns that are assumed to be empty."""

    def __init__(self, view, worths=(), there=(), lacking=(), empties=()):
        self.view = view
        self.there = tuple(there)
        self.lacking = tuple(lacking)
        self.empties = tuple(empties)
        self.rows = sorted_things([*view.rows, *self.there])
        self._assumed = (*self.there, *self.lacking, *self.empties)
        self.worths = sorted_things([*view.worths, *worths, *worths_of(self._assumed)])
        self._held = {row: True for row in self.there}
        # A row is a pattern, so a lacking row is an empty one.
        self._barred = Covering([*self.lacking, *self.empties])

    def mark(self, row):
        """Returns whether a possible row is "there", "lacking" or "open"."""
        if row in self._held:
            return "there"
        mark = self.view.mark(row)
        return "lacking" if mark == "open" and self._barred.over(row) else mark

    def empty(self, pattern):
        """Returns "no" if a row of the pattern is there, "yes" if each possible one lacks, else "open"."""
        return emptiness(self, self.view.dealing.modulus, pattern)

    def lets(self, rows):
        """Returns whether these rows can be all rows in the end."""
        given = set(rows)
        return all([row in given for row in self.rows]) and not any([self.lacks(row) for row in rows])

    def lacks(self, row):
        """Returns whether the row is marked "lacking"."""
        return self.mark(row) == "lacking"

    def without(self, pattern):
        """Returns whether each possible row of the pattern lacks."""
        return self.empty(pattern) == "yes"

    def shuts(self, pattern):
        """Returns whether an assumption or seals over the whole pattern leave none of its rows open."""
        return self._barred.over(pattern) or self.view.shuts(pattern)

    def column(self, table, at):
        """Returns a list of the worths of a column that the view's rows and seals or assumptions have there."""
        return self.view.column(table, at) + column_worths(self._assumed, table, at)

    def with_there(self, row):
        """Returns the marks with an open row assumed to be there."""
        if self.mark(row) != "open":
            raise NotOpen(row)
        return Marks(self.view, self.worths, (*self.there, row), self.lacking, self.empties)

    def with_lacking(self, row):
        """Returns the marks with an open row assumed to be lacking."""
        if self.mark(row) != "open":
            raise NotOpen(row)
        return Marks(self.view, self.worths, self.there, (*self.lacking, row), self.empties)

    def with_empty(self, pattern):
        """Returns the marks with an open pattern assumed to be empty."""
        if self.empty(pattern) != "open":
            raise NotOpen(pattern)
        return Marks(self.view, self.worths, self.there, self.lacking, (*self.empties, pattern))


def first_marks(question, view, fact):
    """Returns the marks without assumptions that know the question's constants and the fact's worths."""
    return Marks(view, (*question.constants, *fact[1]))
