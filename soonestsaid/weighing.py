"""Telling a fact from exactly the rows of marks, with as few conditions open in the marks as can be."""

from heapq import heappop, heappush

from soonestsaid.fillings import filled, grounded
from soonestsaid.joins import bound_by
from soonestsaid.telling import Telling

OPEN_ROW = 1
# An open pattern is parted into many branches, so open rows are chosen rather.
OPEN_PATTERN = 4


def told_names(question, name):
    """Returns a list of the names in the 'told' conditions of the rules that tell facts of this name."""
    rules = [rule for rule in question.rules if rule[0] == name]
    return [condition[1] for rule in rules for condition in rule[2] if condition[0] == "told"]


def needed_names(question, name):
    """Returns a list of the names that facts of this name may lean on; its own is among them only if they may, too."""
    found = []
    waiting = told_names(question, name)
    while waiting:
        needed = waiting.pop()
        if needed not in found:
            found.append(needed)
            waiting.extend(told_names(question, needed))
    return found


class Weighing(Telling):
    """What the marks' rows tell as far as it helps a fact: steps of least weight, none behind the fact's own."""

    def __init__(self, question, marks, fact):
        self._fact = fact
        self._plan = planned_rules(question, fact)
        self._marks = marks
        self._emptiness = {}
        self._weights = {}
        self._waiting = []
        self._pushed = 0
        Telling.__init__(self, question, marks)

    def _rules(self):
        return self._plan

    def _tell(self, number, bindings):
        """Lets the steps wait that the marks' rows allow, until nothing lighter is left."""
        rule = self.question.rules[number]
        for bound in bindings:
            head = (rule[0], filled(rule[1], bound))
            if head in self.steps:
                continue
            made = grounded(rule, bound)
            weight = self._weight(made) if made.fits else None
            if weight is not None:
                weight += sum([self._weights[fact] for fact in made.facts])
                self._pushed += 1
                heappush(self._waiting, (weight, self._pushed, head, number, filled(self._variables[number], bound)))

    def _weight(self, made):
        """Returns how heavy the open conditions of a Ground are, or None if one of its conditions is broken."""
        weight = 0
        for row in made.nots:
            mark = self._marks.mark(row)
            if mark == "there":
                return None
            weight += OPEN_ROW if mark == "open" else 0
        for pattern in made.nones:
            if pattern not in self._emptiness:
                self._emptiness[pattern] = self._marks.empty(pattern)
            if self._emptiness[pattern] == "no":
                return None
            weight += OPEN_PATTERN if self._emptiness[pattern] == "open" else 0
        return weight

    def _go_on(self):
        """Tells the lightest step that waits, until the fact is told."""
        # What a fact leans on is never heavier than the fact, so each fact is told by its lightest step.
        while self._waiting and self._fact not in self.steps:
            weight, _, head, number, filling = heappop(self._waiting)
            if head not in self.steps:
                self.steps[head] = (number, filling)
                self._weights[head] = weight
                self._use(head)


def planned_rules(question, fact):
    """Returns a list of (number, binding): the rules that help a fact, bound to it where only the fact counts."""
    name, worths = fact
    needed = needed_names(question, name)
    found = []
    for number, rule in enumerate(question.rules):
        bound = {} if rule[0] in needed else None
        if rule[0] == name and bound is None:
            bound = bound_by(rule[1], worths, {}) if len(rule[1]) == len(worths) else None
        if bound is not None:
            found.append((number, bound))
    return found
