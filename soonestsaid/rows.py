"""Whole numbers, tables and rows."""

from soonestsaid.errors import BadRow, BadTables

MOST_TABLES = 3
MOST_WIDTH = 3


def is_whole(thing, low=None, high=None):
    """Returns whether thing is a whole number from low to high; True and False are none."""
    if not isinstance(thing, int) or isinstance(thing, bool):
        return False
    return (low is None or thing >= low) and (high is None or thing <= high)


def is_sequence(thing, least=0, most=None):
    """Returns whether thing is a list or tuple of `least` to `most` entries (None: no bound)."""
    if not isinstance(thing, (list, tuple)):
        return False
    return len(thing) >= least and (most is None or len(thing) <= most)


def check_tables(tables):
    """Returns the widths of the tables as a tuple, or raises BadTables."""
    if not is_sequence(tables, 1, MOST_TABLES):
        raise BadTables("many")
    for width in tables:
        if not is_whole(width, 1, MOST_WIDTH):
            raise BadTables("width")
    return tuple(tables)


def fault_of_cells(tables, thing, least):
    """Returns which part of a row or pattern is at fault, each cell being `least` or more, or None."""
    if not is_sequence(thing, 2, 2):
        return "whole"
    table, cells = thing
    if not is_whole(table, 0, len(tables) - 1):
        return "table"
    if not is_sequence(cells, tables[table], tables[table]):
        return "width"
    if not all([is_whole(cell, least) for cell in cells]):
        return "cell"
    return None


def check_row(tables, row):
    """Returns the row in plain tuples, or raises BadRow."""
    fault = fault_of_cells(tables, row, 0)
    if fault == "whole":
        raise BadRow("row")
    if fault == "cell":
        raise BadRow("worth")
    if fault is not None:
        raise BadRow(fault)
    return plain_row(row)


def check_rows(tables, rows):
    """Returns the rows ascending, each once, or raises BadRow for the first one at fault."""
    if not is_sequence(rows):
        raise BadRow("row")
    return sorted_things([check_row(tables, row) for row in rows])


def plain_row(row):
    """Returns a row or pattern, whose parts may be lists, as a tuple of tuples."""
    table, cells = row
    return (table, tuple(cells))


def plain_rows(rows):
    """Returns unchecked rows or patterns as plain tuples, ascending, each once."""
    return sorted_things([plain_row(row) for row in rows])


def is_plain_row(tables, thing, least=0):
    """Returns whether thing is a row in plain tuples, or a pattern where cells may be -1, the least."""
    return fault_of_cells(tables, thing, least) is None and thing == plain_row(thing)


def are_plain_rows(tables, things, least=0):
    """Returns whether things is a tuple of plain rows, or patterns, ascending, each once."""
    if not isinstance(things, tuple) or not all([is_plain_row(tables, thing, least) for thing in things]):
        return False
    return all([low < high for low, high in zip(things, things[1:])])


def sorted_things(things):
    """Returns the things ascending, each once."""
    found = []
    for thing in sorted(things):
        if not found or found[-1] != thing:
            found.append(thing)
    return tuple(found)


def worths_of(rows):
    """Returns all worths of rows or patterns, ascending, each once."""
    # A star is the one cell below 0.
    return sorted_things([cell for _, cells in rows for cell in cells if cell >= 0])


def cut_rows(rows, worths):
    """Returns, in their order and number, the rows all of whose worths are among the given ones."""
    kept = set(worths)
    return tuple([row for row in rows if all([worth in kept for worth in row[1]])])


def renamed_rows(rows, names):
    """Returns the rows with each worth that is a key of names exchanged for its value, all at once."""
    return sorted_things([(table, tuple([names.get(worth, worth) for worth in worths])) for table, worths in rows])
