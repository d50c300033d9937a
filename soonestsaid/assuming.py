"""The first way to tell a fact: a derivation, and what it takes for granted."""

from soonestsaid.fillings import ground
from soonestsaid.telling import derivation_among
from soonestsaid.weighing import Weighing


class Way:
    """A derivation of a fact, and the assumptions under which it is a right one."""

    def __init__(self, derivation, assumed):
        self.derivation = derivation
        self.assumed = assumed

    def __eq__(self, other):
        return isinstance(other, Way) and self.derivation == other.derivation and self.assumed == other.assumed


def first_way(question, marks, fact):
    """Returns a Way that takes assumptions only if no derivation does without, or None if the rows do not tell it."""
    derivation = derivation_among(question, Weighing(question, marks, fact).steps, fact)
    if derivation is None:
        return None
    return Way(derivation, assumptions_of(question, marks, derivation))


def assumptions_of(question, marks, derivation):
    """Returns the open conditions of a derivation as assumptions, in order, each once."""
    found = {}
    for number, filling in derivation:
        made = ground(question, number, filling)
        for row in made.nots:
            if marks.mark(row) == "open":
                found[("row", row)] = True
        for pattern in made.nones:
            if marks.empty(pattern) == "open":
                found[("none", pattern)] = True
    return tuple(found)
