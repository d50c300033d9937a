"""Telling facts from a basis, each by the step that tells it first."""

from soonestsaid.fillings import filled, ground, grounded, wanted_parts
from soonestsaid.joins import Store, bound_by, joined_with
from soonestsaid.questions import variables_of


class Remembered:
    """A basis that asks another one for each row and each pattern once."""

    def __init__(self, basis):
        self.rows = basis.rows
        self._basis = basis
        self._lacking = {}
        self._without = {}

    def lacks(self, row):
        """Returns whether the other basis lacks the row."""
        if row not in self._lacking:
            self._lacking[row] = self._basis.lacks(row)
        return self._lacking[row]

    def without(self, pattern):
        """Returns whether the other basis is without the pattern."""
        if pattern not in self._without:
            self._without[pattern] = self._basis.without(pattern)
        return self._without[pattern]


class Telling:
    """All that a question tells for a basis."""

    def __init__(self, question, basis):
        self.question = question
        self.basis = Remembered(basis)
        # Each told fact with the step that told it, in the order of telling.
        self.steps = {}
        self.heads = []
        self._store = Store()
        self._variables = [variables_of(rule) for rule in question.rules]
        self._uses = self._find_uses()
        self._begin()
        self._go_on()

    def _rules(self):
        """Returns a list of (number, binding): the rules that are asked, and what their variables are bound to."""
        return [(number, {}) for number in range(len(self.question.rules))]

    def _find_uses(self):
        """Returns for each name the (number, binding, terms, rest): who wants such facts, and what else it wants."""
        found = {}
        for number, begun in self._rules():
            wanted = wanted_parts(self.question.rules[number])
            for at, (head, terms) in enumerate(wanted):
                if isinstance(head, str):
                    found.setdefault(head, []).append((number, begun, terms, wanted[:at] + wanted[at + 1:]))
        return found

    def _begin(self):
        """Lays the rows and tells what needs no facts."""
        for table, worths in self.basis.rows:
            self._store.lay(table, worths)
        for number, bound in self._rules():
            wanted = wanted_parts(self.question.rules[number])
            if not [head for head, _ in wanted if isinstance(head, str)]:
                self._tell(number, joined_with(self._store, wanted, bound))

    def _go_on(self):
        """Uses each told fact."""
        # Each fact is laid before it is used, so each filling is met when the last of its facts is laid.
        used = 0
        while used < len(self.heads):
            self._use(self.heads[used])
            used += 1

    def _use(self, fact):
        """Lays a new fact and tells what it helps to tell."""
        name, worths = fact
        self._store.lay(name, worths)
        for number, begun, terms, rest in self._uses.get(name, []):
            bound = bound_by(terms, worths, begun)
            if bound is not None:
                self._tell(number, joined_with(self._store, rest, bound))

    def _tell(self, number, bindings):
        """Tells the heads of those fillings of a rule that hold; their rows and facts are there."""
        rule = self.question.rules[number]
        for bound in bindings:
            head = (rule[0], filled(rule[1], bound))
            if head not in self.steps and holds_beside(self.basis, grounded(rule, bound)):
                self.steps[head] = (number, filled(self._variables[number], bound))
                self.heads.append(head)


def derivation_among(question, steps, fact):
    """Returns those of the steps that a fact needs, in their order, or None if no step tells it."""
    if fact not in steps:
        return None
    needed = {fact: True}
    found = []
    # A step leans on facts that were told ahead of it alone, so one way back meets all that is needed.
    for head in reversed(list(steps)):
        if head in needed:
            number, filling = steps[head]
            found.append((number, filling))
            for support in ground(question, number, filling).facts:
                needed[support] = True
    found.reverse()
    return tuple(found)


def holds_beside(basis, made):
    """Returns whether a Ground, all rows and facts of which are there, holds for a basis."""
    if not made.fits:
        return False
    for row in made.nots:
        if not basis.lacks(row):
            return False
    for pattern in made.nones:
        if not basis.without(pattern):
            return False
    return True
