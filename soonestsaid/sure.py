"""Verdicts: whether a fact is told by every input that a view lets be."""

from soonestsaid.assuming import first_way
from soonestsaid.cases import branches_of
from soonestsaid.marks import first_marks
from soonestsaid.meaning import answers_of


class Sure:
    """A fact is sure; the paper shows it."""

    def __init__(self, paper):
        self.paper = paper

    def __eq__(self, other):
        return isinstance(other, Sure) and self.paper == other.paper


class Foil:
    """A fact is not sure; the rows are an input that the view lets be and that does not tell it."""

    def __init__(self, rows):
        self.rows = rows

    def __eq__(self, other):
        return isinstance(other, Foil) and self.rows == other.rows


def heard_of(view):
    """Returns for each whole of the view the house, its rows and its seals."""
    return tuple([(house, whole.rows, whole.seals) for house, whole in view.wholes])


def find_verdict(question, view, fact):
    """Returns Sure with a paper, or a Foil."""
    found = find_tree(question, first_marks(question, view, fact), fact)
    return found if isinstance(found, Foil) else Sure((heard_of(view), found))


def find_tree(question, marks, fact):
    """Returns a tree that belongs to the marks, or a Foil."""
    way = first_way(question, marks, fact)
    if way is None:
        return Foil(marks.rows)
    if not way.assumed:
        return ("told", way.derivation)
    word, thing = way.assumed[0]
    branches = list(branches_of(marks, way.assumed[0]))
    trees = []
    # The last branches break the way, so a foil is sooner found among them.
    for branch in reversed(branches):
        tree = find_tree(question, branch, fact)
        if isinstance(tree, Foil):
            return tree
        trees.append(tree)
    trees.reverse()
    if word == "row":
        return (word, thing, *trees)
    return (word, thing, trees[0], tuple([(branch.there[-1], tree) for branch, tree in zip(branches[1:], trees[1:])]))


def is_sure(question, view, fact):
    """Returns whether every input that the view lets be tells the fact."""
    return isinstance(find_verdict(question, view, fact), Sure)


def sure_answers(question, view):
    """Returns all answers that are sure, ascending."""
    left = list(answers_of(question, view.rows))
    found = []
    while left:
        verdict = find_verdict(question, view, left[0])
        if isinstance(verdict, Sure):
            found.append(left[0])
            left = left[1:]
        else:
            # One foil may show of many answers that they are not sure.
            told = answers_of(question, verdict.rows)
            left = [fact for fact in left if fact in told]
    return tuple(found)
