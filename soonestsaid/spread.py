"""Questions of rows alone, and in which dealings houses that send no letters tell all answers together."""

from soonestsaid.dealings import Dealing
from soonestsaid.errors import BadDealing, FewRows, NotOfRows, UnlikeTables
from soonestsaid.fillings import filled, ground, wanted_parts
from soonestsaid.joins import bound_by
from soonestsaid.meaning import answers_of
from soonestsaid.needs import answer_rules, known_worths
from soonestsaid.patterns import typical_choices
from soonestsaid.questions import variables_of
from soonestsaid.rows import sorted_things

LEAST_SPREAD = 2
MOST_SPREAD = 5


class Carry:
    """A least lot of one question that lies in no least lot of another, and a dealing in which it alone is not met."""

    def __init__(self, lot, dealing):
        self.lot = lot
        self.dealing = dealing

    def __eq__(self, other):
        return isinstance(other, Carry) and self.lot == other.lot and self.dealing == other.dealing


class Lots:
    """What a question of rows tells from lots, each found once."""

    def __init__(self, question):
        if not question.of_rows:
            raise NotOfRows()
        self.question = question
        self._answers = {}

    def answers(self, lot):
        """Returns the answers of a lot."""
        if lot not in self._answers:
            self._answers[lot] = answers_of(self.question, lot)
        return self._answers[lot]

    def least_for(self, lot):
        """Returns the answers for which the lot is least, ascending."""
        # More rows tell more, so the lots that lack one row tell all that lesser lots do.
        lesser = [fact for at in range(len(lot)) for fact in self.answers(lot[:at] + lot[at + 1:])]
        return tuple([fact for fact in self.answers(lot) if fact not in lesser])

    def filled_lots(self, number, filling):
        """Returns a list of the (answer, lot) of a filling of a rule, or of none if it does not fit."""
        made = ground(self.question, number, filling)
        return [(made.head, sorted_things(made.rows))] if made.fits else []

    def typical(self, worths, modulus):
        """Returns the (answer, lot) of all typical fillings beside the worths and the constants, ascending."""
        known = sorted_things([*worths, *self.question.constants])
        found = []
        for number in answer_rules(self.question):
            many = len(variables_of(self.question.rules[number]))
            for filling in typical_choices(many, known, modulus):
                found.extend(self.filled_lots(number, filling))
        return sorted_things(found)

    def wider(self, lot):
        """Returns a couple of an answer and a lot least for it that has all rows of the lot, or None."""
        known = known_worths(self.question, lot)
        for number in answer_rules(self.question):
            variables = variables_of(self.question.rules[number])
            for bound in bindings_over(self.question.rules[number], lot):
                free = [variable for variable in variables if variable not in bound]
                for choice in typical_choices(len(free), known, 1):
                    filling = filled(variables, bound_by(free, choice, bound))
                    for fact, found in self.filled_lots(number, filling):
                        if fact in self.least_for(found):
                            return (fact, found)
        return None


def bindings_over(rule, lot):
    """Returns a list of the bindings with which each row of the lot is one of the rule's rows."""
    bindings = [{}]
    for table, worths in lot:
        found = []
        for bound in bindings:
            found.extend([bound_by(terms, worths, bound) for other, terms in wanted_parts(rule) if other == table])
        bindings = [bound for bound in found if bound is not None]
    return bindings


def least_facts(question, lot):
    """Returns the answers for which the lot is least, ascending; raises NotOfRows."""
    return Lots(question).least_for(tuple(lot))


def least_fillings(question, worths=(), modulus=1):
    """Returns the (answer, lot) of typical fillings whose lot is least for the answer; raises NotOfRows."""
    lots = Lots(question)
    return tuple([(fact, lot) for fact, lot in lots.typical(worths, modulus) if fact in lots.least_for(lot)])


def common_homes(dealing, lot):
    """Returns the houses that are a home of each row of the lot."""
    groups = [dealing.homes(row) for row in lot]
    return tuple([house for house in range(dealing.houses) if all([house in group for group in groups])])


def silent_answers(question, dealing, rows):
    """Returns for each house the answers that its own part of the rows tells; raises NotOfRows."""
    if not question.of_rows:
        raise NotOfRows()
    return tuple([answers_of(question, dealing.part_of(rows, house)) for house in range(dealing.houses)])


def unmet_lot(question, dealing):
    """Returns a least lot without a common home, or None if there is none; raises NotOfRows, BadDealing."""
    lots = Lots(question)
    if question.tables != dealing.tables:
        raise BadDealing("tables", 0)
    for fact, lot in lots.typical(dealing.special, dealing.modulus):
        if not common_homes(dealing, lot) and fact in lots.least_for(lot):
            return lot
    return None


def wider_lot(question, lot):
    """Returns an (answer, lot) of a least lot with all rows of the given one, or None; raises NotOfRows."""
    return Lots(question).wider(tuple(lot))


def spread_out(tables, lot):
    """Returns the dealing in which just those lots are met that lack a row of this one; raises FewRows."""
    many = len(lot)
    if not LEAST_SPREAD <= many <= MOST_SPREAD:
        raise FewRows()
    houses = range(many)
    accepts = [(house, table, ((0,),) * width) for house in houses for table, width in enumerate(tables)]
    exceptions = [(row, [house for house in houses if house != place]) for place, row in enumerate(lot)]
    return Dealing(tables, many, 1, accepts, exceptions)


def carried_fault(one, other):
    """Returns None if what is right for one question is right for the other, else a Carry.

    Raises NotOfRows, UnlikeTables.
    """
    widening, lots = Lots(one), Lots(other)
    if one.tables != other.tables:
        raise UnlikeTables()
    for fact, lot in lots.typical(one.constants, 1):
        if len(lot) >= LEAST_SPREAD and fact in lots.least_for(lot) and widening.wider(lot) is None:
            return Carry(lot, spread_out(one.tables, lot))
    return None
