"""Telling facts from a basis, each by the step that tells it first."""

from soonestsaid.fillings import filled, ground, wanted_parts
from soonestsaid.joins import Store, bound_by, joined_with
from soonestsaid.questions import variables_of


class Remembered:
    """A basis that asks another one for each row and each pattern once."""

    def __init__(self, basis):
        self.rows = basis.rows
        self._basis = basis
        self._lacking = {}
        self._without = {}

    def lacks(self, row):
        """Returns whether the other basis lacks the row."""
        if row not in self._lacking:
            self._lacking[row] = self._basis.lacks(row)
        return self._lacking[row]

    def without(self, pattern):
        """Returns whether the other basis is without the pattern."""
        if pattern not in self._without:
            self._without[pattern] = self._basis.without(pattern)
        return self._without[pattern]


class Telling:
    """All that a question tells for a basis."""

    def __init__(self, question, basis):
        self.question = question
        self.basis = Remembered(basis)
        # Each told fact with the step that told it, in the order of telling.
        self.steps = {}
        self.heads = []
        self._store = Store()
        self._begin()
        # Each fact is laid before it is used, so each filling is met when the last of its facts is laid.
        used = 0
        while used < len(self.heads):
            self._use(self.heads[used])
            used += 1

    def _begin(self):
        """Lays the rows and tells what needs no facts."""
        for table, worths in self.basis.rows:
            self._store.lay(table, worths)
        for number, rule in enumerate(self.question.rules):
            wanted = wanted_parts(rule)
            if not [head for head, _ in wanted if isinstance(head, str)]:
                self._tell(number, joined_with(self._store, wanted, {}))

    def _use(self, fact):
        """Lays a new fact and tells what it helps to tell."""
        name, worths = fact
        self._store.lay(name, worths)
        for number, rule in enumerate(self.question.rules):
            wanted = wanted_parts(rule)
            for at, (head, terms) in enumerate(wanted):
                bound = bound_by(terms, worths, {}) if head == name else None
                if bound is not None:
                    self._tell(number, joined_with(self._store, wanted[:at] + wanted[at + 1:], bound))

    def _tell(self, number, bindings):
        """Tells the heads of those fillings of a rule that hold; their rows and facts are there."""
        rule = self.question.rules[number]
        variables = variables_of(rule)
        for bound in bindings:
            head = (rule[0], filled(rule[1], bound))
            if head not in self.steps:
                filling = filled(variables, bound)
                if holds_beside(self.basis, ground(self.question, number, filling)):
                    self.steps[head] = (number, filling)
                    self.heads.append(head)


def holds_beside(basis, made):
    """Returns whether a Ground, all rows and facts of which are there, holds for a basis."""
    if not made.fits:
        return False
    for row in made.nots:
        if not basis.lacks(row):
            return False
    for pattern in made.nones:
        if not basis.without(pattern):
            return False
    return True
