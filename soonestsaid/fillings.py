"""Fillings: worths for the variables of a rule."""

from soonestsaid.joins import Store, joined_with
from soonestsaid.patterns import typical_choices
from soonestsaid.questions import variables_of
from soonestsaid.rows import plain_rows, sorted_things


class Ground:
    """A rule with worths in the place of its variables."""

    def __init__(self, head, rows, facts, nots, nones, fits):
        self.head = head
        self.rows = rows
        self.facts = facts
        self.nots = nots
        self.nones = nones
        self.fits = fits

    def __eq__(self, other):
        return (isinstance(other, Ground) and self.head == other.head and self.rows == other.rows
                and self.facts == other.facts and self.nots == other.nots and self.nones == other.nones
                and self.fits == other.fits)


def ground(question, number, filling):
    """Returns the Ground of a rule, each of its variables exchanged for its worth."""
    rule = question.rules[number]
    return grounded(rule, dict(zip(variables_of(rule), filling)))


def grounded(rule, bound):
    """Returns the Ground of a rule all of whose variables are bound."""
    parts = {"row": [], "told": [], "not": [], "none": [], "unlike": []}
    for condition in rule[2]:
        word = condition[0]
        if word == "none":
            parts[word].append(condition[1])
        elif word == "unlike":
            one, other = filled(condition[1:], bound)
            parts[word].append(one != other)
        else:
            parts[word].append((condition[1], filled(condition[2], bound)))
    return Ground(
        (rule[0], filled(rule[1], bound)), tuple(parts["row"]), tuple(parts["told"]), tuple(parts["not"]),
        tuple(parts["none"]), all(parts["unlike"]))


def filled(terms, bound):
    """Returns the terms with each variable exchanged for its worth."""
    return tuple([bound.get(term, term) for term in terms])


def wanted_parts(rule):
    """Returns the (table or name, terms) of a rule's 'row' and 'told' conditions, in their order."""
    return [condition[1:] for condition in rule[2] if condition[0] in ("row", "told")]


def find_fillings(question, number, rows, facts=()):
    """Returns all fillings of a rule that fit, with all their rows and facts among the given ones, ascending."""
    store = Store()
    for head, worths in [*plain_rows(rows), *plain_rows(facts)]:
        store.lay(head, worths)
    rule = question.rules[number]
    variables = variables_of(rule)
    found = [filled(variables, bound) for bound in joined_with(store, wanted_parts(rule), {})]
    return sorted_things([filling for filling in found if ground(question, number, filling).fits])


def frozen_fillings(question, number, more=()):
    """Returns one filling for each way to make the variables alike or unlike to one another and to constants."""
    constants = sorted_things([*question.constants, *more])
    choices = typical_choices(len(variables_of(question.rules[number])), constants, 1)
    return sorted_things([filling for filling in choices if ground(question, number, filling).fits])
