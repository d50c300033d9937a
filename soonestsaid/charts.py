"""Charts: whether a fact is told, for each way in which a few rows may be there or lacking."""

from soonestsaid.dealings import Dealing
from soonestsaid.errors import AlreadyThere, TooWide
from soonestsaid.meaning import told_facts
from soonestsaid.patterns import star_patterns
from soonestsaid.rows import check_rows, check_tables
from soonestsaid.views import View
from soonestsaid.wholes import Whole

MOST_PLACES = 8


class Chart:
    """The rows of a lot, and for each outcome a truth."""

    def __init__(self, lot, truths):
        self.lot = lot
        self.truths = truths

    def __eq__(self, other):
        return isinstance(other, Chart) and self.lot == other.lot and self.truths == other.truths


def is_there(outcome, place):
    """Returns whether the row at the place is there in the outcome."""
    return (outcome >> place) & 1 == 1


def outcome_rows(lot, outcome):
    """Returns the rows of the lot that are there in the outcome."""
    return tuple([row for place, row in enumerate(lot) if is_there(outcome, place)])


def check_lot(tables, rows, lot):
    """Returns the rows and the lot as ROWS; raises BadRow, TooWide, AlreadyThere."""
    given = check_rows(tables, rows)
    plain = check_rows(tables, lot)
    if len(plain) > MOST_PLACES:
        raise TooWide(len(plain))
    for row in plain:
        if row in given:
            raise AlreadyThere(row)
    return (given, plain)


def chart_of(question, rows, lot, fact):
    """Returns the Chart of whether the question tells the fact; raises BadRow, TooWide, AlreadyThere."""
    given, plain = check_lot(question.tables, rows, lot)
    outcomes = range(1 << len(plain))
    told = [told_facts(question, given + outcome_rows(plain, outcome)) for outcome in outcomes]
    return Chart(plain, tuple([fact in facts for facts in told]))


def fits(standing, outcome):
    """Returns whether an outcome agrees with each answer of the standing."""
    return all([entry is None or entry == is_there(outcome, place) for place, entry in enumerate(standing)])


def settled_by(chart, standing):
    """Returns the truth that all outcomes that fit the standing have, or None if their truths are unlike."""
    found = [truth for outcome, truth in enumerate(chart.truths) if fits(standing, outcome)]
    return found[0] if found.count(found[0]) == len(found) else None


def asking_dealing(tables, lot):
    """Returns the dealing in which house 1 holds just the lot; raises BadTables, BadRow, TooWide."""
    widths = check_tables(tables)
    _, plain = check_lot(widths, (), lot)
    accepts = [(0, table, ((0,),) * width) for table, width in enumerate(widths)]
    return Dealing(widths, 2, 1, accepts, [(row, (1,)) for row in plain])


def asking_view(tables, rows, lot, standing):
    """Returns the view in which a standing's rows alone are open; raises BadTables, BadRow, TooWide, AlreadyThere."""
    widths = check_tables(tables)
    given, plain = check_lot(widths, rows, lot)
    answers = [(row, there) for row, there in zip(plain, standing) if there is not None]
    asked = Whole([row for row, there in answers if there], [row for row, _ in answers])
    return View(asking_dealing(widths, plain), [(0, Whole(given, star_patterns(widths))), (1, asked)])
