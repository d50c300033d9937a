"""Judging papers and foils, without any search."""

from soonestsaid.cases import branches_of, breaking_rows
from soonestsaid.errors import BadPaper
from soonestsaid.marks import first_marks
from soonestsaid.meaning import basis_fault, told_facts
from soonestsaid.patterns import STAR, covers
from soonestsaid.rows import are_plain_rows, check_rows, is_plain_row, is_whole, renamed_rows, worths_of
from soonestsaid.views import View
from soonestsaid.wholes import Whole


class PaperFault:
    """The first fault of a paper: what it is, and the place of the tree at fault."""

    def __init__(self, what, place):
        self.what = what
        self.place = place

    def __eq__(self, other):
        return isinstance(other, PaperFault) and self.what == other.what and self.place == other.place


class PaperWalk:
    """Where an input comes to in a paper: the place of a leaf, and a derivation from exactly this input."""

    def __init__(self, place, derivation):
        self.place = place
        self.derivation = derivation

    def __eq__(self, other):
        return isinstance(other, PaperWalk) and self.place == other.place and self.derivation == other.derivation


def is_couple(thing):
    """Returns whether thing is a tuple of two entries."""
    return isinstance(thing, tuple) and len(thing) == 2


def heard_whole(view, entry, least):
    """Returns the whole of an entry of heard, whose house is `least` or more, or None if the view did not hear it."""
    if not isinstance(entry, tuple) or len(entry) != 3:
        return None
    house, rows, seals = entry
    tables = view.dealing.tables
    if not is_whole(house, least, view.dealing.houses - 1):
        return None
    if not are_plain_rows(tables, rows) or not are_plain_rows(tables, seals, STAR):
        return None
    whole = Whole(rows, seals)
    bare = not rows and not seals
    return None if bare or not whole.grown(view.whole_of(house)) else whole


def heard_view(view, paper):
    """Returns the view that has heard exactly what a paper stands on, or None if that is at fault."""
    if not is_couple(paper) or not isinstance(paper[0], tuple):
        return None
    wholes = []
    least = 0
    for entry in paper[0]:
        whole = heard_whole(view, entry, least)
        if whole is None:
            return None
        wholes.append((entry[0], whole))
        least = entry[0] + 1
    return View(view.dealing, wholes)


def has_shape(tree):
    """Returns whether a tree is one of the three tuples, whatever its branches are."""
    if not isinstance(tree, tuple) or not tree:
        return False
    if tree[0] == "told":
        return len(tree) == 2
    if tree[0] == "row":
        return len(tree) == 4
    if tree[0] != "none" or len(tree) != 4:
        return False
    return isinstance(tree[3], tuple) and all([is_couple(case) for case in tree[3]])


def is_known(marks, thing, least):
    """Returns whether thing is a plain row, or pattern, all of whose worths the marks know."""
    if not is_plain_row(marks.view.dealing.tables, thing, least):
        return False
    return all([worth in marks.worths for worth in worths_of([thing])])


def fault_of_tree(question, marks, fact, tree):
    """Returns the word for what is wrong with a tree that belongs to the marks, but for its branches, or None."""
    if not has_shape(tree):
        return "shape"
    if tree[0] == "told":
        return None if basis_fault(question, marks, fact, tree[1]) is None else "steps"
    if tree[0] == "row":
        return None if is_known(marks, tree[1], 0) and marks.mark(tree[1]) == "open" else "row"
    if not is_known(marks, tree[1], STAR) or marks.empty(tree[1]) != "open":
        return "none"
    rows = tuple([row for row, _ in tree[3]])
    plain = are_plain_rows(question.tables, rows)
    return None if plain and rows == breaking_rows(marks, tree[1]) else "cases"


def subtrees(tree):
    """Returns a list of a tree's branches, in the order of their places."""
    if tree[0] == "told":
        return []
    return [*tree[2:]] if tree[0] == "row" else [tree[2], *[branch for _, branch in tree[3]]]


def paper_fault(question, view, fact, paper):
    """Returns None if the paper shows that the fact is sure in the view, else its first fault."""
    heard = heard_view(view, paper)
    if heard is None:
        return PaperFault("heard", ())
    waiting = [(paper[1], first_marks(question, heard, fact), ())]
    while waiting:
        tree, marks, place = waiting.pop()
        what = fault_of_tree(question, marks, fact, tree)
        if what is not None:
            return PaperFault(what, place)
        if tree[0] != "told":
            branches = list(branches_of(marks, (tree[0], tree[1])))
            below = [(branch, marked, (*place, at))
                     for at, (branch, marked) in enumerate(zip(subtrees(tree), branches))]
            waiting.extend(below[::-1])
    return None


def leaf_places(paper):
    """Returns the places of all leaves of a paper, in the order in which they are judged."""
    found = []
    waiting = [(paper[1], ())]
    while waiting:
        tree, place = waiting.pop()
        if tree[0] == "told":
            found.append(place)
        below = [(branch, (*place, at)) for at, branch in enumerate(subtrees(tree))]
        waiting.extend(below[::-1])
    return tuple(found)


def walk_paper(question, view, fact, paper, rows):
    """Goes down a right paper with an input that the view lets be; raises BadRow, BadPaper, NotLet."""
    given = check_rows(question.tables, rows)
    fault = paper_fault(question, view, fact, paper)
    if fault is not None:
        raise BadPaper(fault.what, fault.place)
    view.ended(given)
    tree = paper[1]
    marks = first_marks(question, heard_view(view, paper), fact)
    place = ()
    swaps = []
    while tree[0] != "told":
        at, given, swapped = branch_for(tree, marks, given)
        swaps.extend(swapped)
        place = (*place, at)
        marks = list(branches_of(marks, (tree[0], tree[1])))[at]
        tree = subtrees(tree)[at]
    return PaperWalk(place, tuple([(number, swapped_back(filling, swaps)) for number, filling in tree[1]]))


def branch_for(tree, marks, given):
    """Returns the number of the branch for an input, the input as it is there, and the exchanges that led to it."""
    if tree[0] == "row":
        return (1 if tree[1] in given else 0, given, [])
    covered = [row for row in given if covers(tree[1], row)]
    if not covered:
        return (0, given, [])
    row = covered[0]
    kinds = [kind_of(case, marks) for case, _ in tree[3]]
    number = kinds.index(kind_of(row, marks))
    swaps = []
    for at, worth in enumerate(tree[3][number][0][1]):
        other = row[1][at]
        if other != worth:
            names = {other: worth, worth: other}
            given = renamed_rows(given, names)
            row = renamed_rows([row], names)[0]
            swaps.append((other, worth))
    return (number + 1, given, swaps)


def kind_of(row, marks):
    """Returns what is alike for rows that one case stands for: known worths, rests of others, which are alike."""
    modulus = marks.view.dealing.modulus
    return tuple([(worth,) if worth in marks.worths else (worth % modulus, row[1].index(worth)) for worth in row[1]])


def swapped_back(filling, swaps):
    """Returns the filling with all exchanges undone, the last one first."""
    found = tuple(filling)
    for one, other in reversed(swaps):
        names = {one: other, other: one}
        found = tuple([names.get(worth, worth) for worth in found])
    return found


def foil_fault(question, view, fact, rows):
    """Returns None if the rows are a foil of the fact in the view, else the word for what is wrong; raises BadRow."""
    given = check_rows(question.tables, rows)
    if not all([row in given for row in view.rows]):
        return "known"
    if any([view.lacks(row) for row in given]):
        return "lacking"
    return "told" if fact in told_facts(question, given) else None
