"""Questions: rules that tell facts from rows."""

from soonestsaid.errors import BadQuestion
from soonestsaid.rows import check_tables, is_sequence, is_whole, sorted_things, worths_of
from soonestsaid.signs import LETTERS, MOST_LETTERS

MOST_RULES = 6
MOST_HEAD = 3
MOST_CONDITIONS = 5
MOST_VARIABLES = 4


def is_name(thing):
    """Returns whether thing is a string of 1 to 8 small letters."""
    if not isinstance(thing, str) or not 1 <= len(thing) <= MOST_LETTERS:
        return False
    return all([sign in LETTERS for sign in thing])


def is_term(thing):
    """Returns whether thing is a worth or a variable."""
    return is_whole(thing, 0) or is_name(thing)


def are_terms(things):
    """Returns whether things is a sequence of terms."""
    return is_sequence(things) and all([is_term(thing) for thing in things])


def plain_pattern(thing):
    """Returns a couple of anything and cells in plain tuples, or None for what is none."""
    if not is_sequence(thing, 2, 2) or not is_sequence(thing[1]):
        return None
    if not all([is_whole(cell, -1) for cell in thing[1]]):
        return None
    return (thing[0], tuple(thing[1]))


def plain_condition(thing):
    """Returns a condition in plain tuples, or None for what has not the form of one."""
    if not is_sequence(thing, 2, 3):
        return None
    word = thing[0]
    if word == "none":
        pattern = plain_pattern(thing[1]) if len(thing) == 2 else None
        return None if pattern is None else (word, pattern)
    if len(thing) != 3:
        return None
    if word == "unlike":
        return tuple(thing) if are_terms(thing[1:]) else None
    if word not in ("row", "told", "not") or not are_terms(thing[2]):
        return None
    if word == "told" and not is_name(thing[1]):
        return None
    return (word, thing[1], tuple(thing[2]))


def plain_rule(thing):
    """Returns a rule in plain tuples, or None for what has not the form of one."""
    if not is_sequence(thing, 3, 3):
        return None
    name, terms, conditions = thing
    if not is_name(name) or not is_sequence(terms, 0, MOST_HEAD) or not are_terms(terms):
        return None
    if not is_sequence(conditions, 0, MOST_CONDITIONS):
        return None
    plain = tuple([plain_condition(condition) for condition in conditions])
    if None in plain:
        return None
    rule = (name, tuple(terms), plain)
    if len(set([term for term in terms_of_rule(rule) if isinstance(term, str)])) > MOST_VARIABLES:
        return None
    return rule


def terms_of(condition):
    """Returns the terms of a condition; cells of a pattern are none."""
    if condition[0] == "none":
        return ()
    return condition[1:] if condition[0] == "unlike" else condition[2]


def terms_of_rule(rule):
    """Returns the terms of a rule's head and of its conditions."""
    return [*rule[1], *[term for condition in rule[2] for term in terms_of(condition)]]


def variables_of(rule):
    """Returns the variables of a rule in the order in which they first stand in its conditions."""
    found = {}
    for condition in rule[2]:
        for term in terms_of(condition):
            if isinstance(term, str):
                found[term] = True
    return tuple(found)


def fault_of_width(widths, name, terms):
    """Notes how many terms a name has where it stands first; returns "width" if another number stands here."""
    return None if widths.setdefault(name, len(terms)) == len(terms) else "width"


def fault_of_condition(tables, widths, condition):
    """Returns the word for what is wrong with a plain condition, or None."""
    word = condition[0]
    if word == "unlike":
        return None
    if word == "told":
        return fault_of_width(widths, condition[1], condition[2])
    table, cells = condition[1] if word == "none" else condition[1:]
    if word == "not" and isinstance(table, str):
        return "not"
    if not is_whole(table, 0, len(tables) - 1):
        return "table"
    return None if len(cells) == tables[table] else "width"


def fault_of_rule(tables, widths, rule):
    """Returns the word for what is wrong with a plain rule, or None; notes the widths of its names."""
    faults = [fault_of_width(widths, rule[0], rule[1])]
    faults.extend([fault_of_condition(tables, widths, condition) for condition in rule[2]])
    for fault in faults:
        if fault is not None:
            return fault
    bound = set([term for word, *rest in rule[2] if word in ("row", "told") for term in rest[1]])
    for term in terms_of_rule(rule):
        if isinstance(term, str) and term not in bound:
            return "loose"
    return None


def check_rules(tables, rules):
    """Returns the rules in plain tuples, or raises BadQuestion."""
    if not is_sequence(rules, 1, MOST_RULES):
        raise BadQuestion(None, "rules")
    widths = {}
    found = []
    for number, thing in enumerate(rules):
        rule = plain_rule(thing)
        if rule is None:
            raise BadQuestion(number, "form")
        fault = fault_of_rule(tables, widths, rule)
        if fault is not None:
            raise BadQuestion(number, fault)
        found.append(rule)
    if "answer" not in [name for name, _, _ in found]:
        raise BadQuestion(None, "answer")
    return tuple(found)


class Question:
    """Rules over tables; what they tell is the same for everybody who asks."""

    def __init__(self, tables, rules):
        self.tables = check_tables(tables)
        self.rules = check_rules(self.tables, rules)
        conditions = [condition for rule in self.rules for condition in rule[2]]
        self.patterns = sorted_things([condition[1] for condition in conditions if condition[0] == "none"])
        self.names = sorted_things([rule[0] for rule in self.rules])
        terms = [term for rule in self.rules for term in terms_of_rule(rule)]
        numbers = [term for term in terms if not isinstance(term, str)]
        self.constants = sorted_things([*numbers, *worths_of(self.patterns)])

    @property
    def flat(self):
        """Whether no rule has a 'told' condition."""
        return "told" not in self._words()

    @property
    def of_rows(self):
        """Whether all conditions are 'row' and 'unlike' conditions."""
        return all([word in ("row", "unlike") for word in self._words()])

    def _words(self):
        return [condition[0] for rule in self.rules for condition in rule[2]]

    def __eq__(self, other):
        return isinstance(other, Question) and self.tables == other.tables and self.rules == other.rules
