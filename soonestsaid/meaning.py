"""What a question tells for a basis, and derivations of it."""

from soonestsaid.fillings import ground
from soonestsaid.patterns import covers
from soonestsaid.questions import variables_of
from soonestsaid.rows import is_sequence, is_whole, plain_rows, sorted_things
from soonestsaid.telling import Telling, derivation_among, holds_beside


class Given:
    """The basis of an input: a row that is not among its rows lacks."""

    def __init__(self, rows):
        self.rows = plain_rows(rows)

    def lacks(self, row):
        """Returns whether the row is not there."""
        return row not in self.rows

    def without(self, pattern):
        """Returns whether no row of the pattern is there."""
        return not any([covers(pattern, row) for row in self.rows])


def basis_facts(question, basis):
    """Returns all facts that the question tells for a basis, ascending."""
    return sorted_things(list(Telling(question, basis).steps))


def told_facts(question, rows):
    """Returns all facts that the question tells for an input, ascending."""
    return basis_facts(question, Given(rows))


def answers_of(question, rows):
    """Returns all answers that the question tells for an input, ascending."""
    return tuple([fact for fact in told_facts(question, rows) if fact[0] == "answer"])


def basis_derivation(question, basis, fact):
    """Returns a right derivation of the fact for a basis, or None if it is not told."""
    return derivation_among(question, Telling(question, basis).steps, fact)


def derivation_of(question, rows, fact):
    """Returns a right derivation of the fact for an input, or None if it is not told."""
    return basis_derivation(question, Given(rows), fact)


def basis_fault(question, basis, fact, derivation):
    """Returns None if the derivation is a right one of the fact for a basis, else the place of the first fault."""
    if not is_sequence(derivation):
        return 0
    rows = set(basis.rows)
    heads = {}
    last = None
    for place, step in enumerate(derivation):
        if not is_step(question, step):
            return place
        made = ground(question, step[0], step[1])
        if not (all([row in rows for row in made.rows]) and all([told in heads for told in made.facts])):
            return place
        if not holds_beside(basis, made):
            return place
        last = made.head
        heads[last] = True
    return None if last == fact else len(derivation)


def derivation_fault(question, rows, fact, derivation):
    """Returns None if the derivation is a right one of the fact for an input, else the place of the first fault."""
    return basis_fault(question, Given(rows), fact, derivation)


def is_step(question, step):
    """Returns whether step is a couple of a rule's number and a sequence of one worth for each of its variables."""
    if not is_sequence(step, 2, 2):
        return False
    number, filling = step
    if not is_whole(number, 0, len(question.rules) - 1):
        return False
    many = len(variables_of(question.rules[number]))
    return is_sequence(filling, many, many) and all([is_whole(worth, 0) for worth in filling])
