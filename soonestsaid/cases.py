"""The branches into which an assumption parts marks."""

from soonestsaid.openrows import typical_open


def breaking_rows(marks, pattern):
    """Returns one open row for each kind of open rows of the pattern, ascending."""
    return typical_open(marks, marks.view.dealing.modulus, marks.worths, pattern)


def branches_of(marks, assumption):
    """Yields the marks with the assumption, then those for each way of breaking it."""
    word, thing = assumption
    if word == "row":
        yield marks.with_lacking(thing)
        yield marks.with_there(thing)
    else:
        yield marks.with_empty(thing)
        for row in breaking_rows(marks, thing):
            yield marks.with_there(row)
