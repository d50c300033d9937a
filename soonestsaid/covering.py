"""Finding out at once whether one of many patterns covers a row."""

from soonestsaid.joins import cells_at
from soonestsaid.patterns import STAR


class Covering:
    """Patterns, found by their cells that are no stars."""

    def __init__(self, patterns):
        # For each table: for each choice of columns, the cells of the patterns that have no star just there.
        self._finders = {}
        for table, cells in patterns:
            places = tuple([at for at, cell in enumerate(cells) if cell != STAR])
            found = self._finders.setdefault(table, {}).setdefault(places, {})
            found[cells_at(cells, places)] = True

    def over(self, row):
        """Returns whether one of the patterns covers the row, or all rows of what may be a pattern, too."""
        table, cells = row
        for places, found in self._finders.get(table, {}).items():
            if cells_at(cells, places) in found:
                return True
        return False
