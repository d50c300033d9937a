"""Patterns: rows some of whose cells stand for any worth."""

from soonestsaid.errors import BadPattern
from soonestsaid.rows import fault_of_cells, is_sequence, plain_row, sorted_things, worths_of

STAR = -1


def check_pattern(tables, pattern):
    """Returns the pattern in plain tuples, or raises BadPattern."""
    fault = fault_of_cells(tables, pattern, STAR)
    if fault == "whole":
        raise BadPattern("pattern")
    if fault is not None:
        raise BadPattern(fault)
    return plain_row(pattern)


def check_patterns(tables, patterns):
    """Returns the patterns ascending, each once, or raises BadPattern for the first one at fault."""
    if not is_sequence(patterns):
        raise BadPattern("pattern")
    return sorted_things([check_pattern(tables, pattern) for pattern in patterns])


def covers(pattern, other):
    """Returns whether each row of the other pattern is a row of the pattern."""
    if pattern[0] != other[0]:
        return False
    for cell, inner in zip(pattern[1], other[1]):
        if cell not in (STAR, inner):
            return False
    return True


def meeting(one, other):
    """Returns the pattern whose rows are those of both patterns, or None if there are none."""
    if one[0] != other[0]:
        return None
    cells = []
    for left, right in zip(one[1], other[1]):
        if STAR not in (left, right) and left != right:
            return None
        cells.append(right if left == STAR else left)
    return (one[0], tuple(cells))


def picks(columns):
    """Returns a list of all tuples with one cell out of each column, in the order of the columns."""
    picked = [()]
    for column in columns:
        picked = [(*begun, cell) for begun in picked for cell in column]
    return picked


def rows_of(pattern, worths):
    """Returns the rows of the pattern whose starred columns have some of the worths."""
    table, cells = pattern
    fillers = sorted_things(worths)
    columns = [fillers if cell == STAR else (cell,) for cell in cells]
    return tuple([(table, picked) for picked in picks(columns)])


def all_rows(tables, worths):
    """Returns all rows of the tables over the worths."""
    return tuple([row for pattern in star_patterns(tables) for row in rows_of(pattern, worths)])


def star_patterns(tables):
    """Returns for each table the pattern of stars alone."""
    return tuple([(table, (STAR,) * width) for table, width in enumerate(tables)])


def new_worth(known, rest, modulus):
    """Returns the least worth above all known ones with this remainder by the modulus."""
    least = max(known, default=-1) + 1
    return least + (rest - least) % modulus


def deciding_worths(worths, modulus):
    """Returns the worths and, of each rest by the modulus, the least other one, ascending."""
    others = []
    for rest in range(modulus):
        other = rest
        while other in worths:
            other += modulus
        others.append(other)
    return sorted_things([*worths, *others])


def typical_rows(pattern, worths, modulus):
    """Returns one row of the pattern for each kind of its rows beside the known worths."""
    table, cells = pattern
    known = sorted_things([*worths, *worths_of([pattern])])
    found = []
    for choice in typical_choices(cells.count(STAR), known, modulus):
        left = list(choice)
        found.append((table, tuple([left.pop(0) if cell == STAR else cell for cell in cells])))
    return sorted_things(found)


def typical_choices(many, known, modulus):
    """Returns a list of one tuple for each kind of `many` worths: known ones, alike new ones, rests of new ones."""
    firsts = [new_worth(known, rest, modulus) for rest in range(modulus)]
    begun = [()]
    for _ in range(many):
        begun = [(*worths, worth) for worths in begun for worth in next_choices(worths, known, firsts)]
    return begun


def next_choices(worths, known, firsts):
    """Returns the known worths, the new ones among the worths, and the least further new one of each rest."""
    choices = list(known)
    for first in firsts:
        worth = first
        choices.append(worth)
        while worth in worths:
            worth += len(firsts)
            choices.append(worth)
    return choices
