"""What a question needs, so that its answers become sure: rows, seals of single rows, or seals of patterns."""

from soonestsaid.dealings import Dealing
from soonestsaid.errors import NotFlat
from soonestsaid.fillings import frozen_fillings, ground
from soonestsaid.meaning import Given, answers_of
from soonestsaid.patterns import rows_of
from soonestsaid.rows import are_plain_rows, cut_rows, sorted_things, worths_of
from soonestsaid.sure import Sure, find_verdict
from soonestsaid.telling import holds_beside
from soonestsaid.views import View
from soonestsaid.wholes import Whole


class Need:
    """What a question needs, and a couple for each lesser thing, which shows that it is not enough."""

    def __init__(self, word, couples):
        self.word = word
        self.couples = couples

    def __eq__(self, other):
        return isinstance(other, Need) and self.word == other.word and self.couples == other.couples


class Couple:
    """Two inputs, one within the other, and an answer that the wider one has not."""

    def __init__(self, inner, outer, fact):
        self.inner = inner
        self.outer = outer
        self.fact = fact

    def __eq__(self, other):
        return (isinstance(other, Couple) and self.inner == other.inner and self.outer == other.outer
                and self.fact == other.fact)


def check_flat(question):
    """Raises NotFlat for a question with 'told' conditions."""
    if not question.flat:
        raise NotFlat()


def answer_rules(question):
    """Returns a list of the numbers of the rules that tell answers."""
    return [number for number, rule in enumerate(question.rules) if rule[0] == "answer"]


def known_worths(question, rows):
    """Returns the worths of the rows and the question's constants."""
    return sorted_things([*worths_of(rows), *question.constants])


def couple_fault(question, couple, word):
    """Returns None if the couple shows that what the word says is not enough, else the first fault."""
    check_flat(question)
    inner, outer = couple.inner, couple.outer
    if not are_plain_rows(question.tables, inner) or not are_plain_rows(question.tables, outer):
        return "shape"
    if not all([row in outer for row in inner]):
        return "within"
    if couple.fact not in answers_of(question, inner):
        return "told"
    if couple.fact in answers_of(question, outer):
        return "lost"
    # The rows over these worths alone have no new one.
    old = cut_rows(outer, known_worths(question, inner))
    return "new" if word == "single" and not all([row in inner for row in old]) else None


def body_couple(question, rule, filling, word):
    """Returns a couple that shows that the word is not enough for a body, or None."""
    check_flat(question)
    made = ground(question, rule, filling)
    own = sorted_things(made.rows)
    if not holds_beside(Given(own), made) or needs_nothing(made, word):
        return None
    dealing = Dealing(question.tables, 1, 1, [(0, table, ((0,),) * width)
                                              for table, width in enumerate(question.tables)])
    worths = known_worths(question, own)
    seals = [] if word == "rows" else lacking_rows(made, worths)
    verdict = find_verdict(question, View(dealing, [(0, Whole(own, seals))]), made.head)
    if isinstance(verdict, Sure):
        return None
    return Couple(own if word == "rows" else cut_rows(verdict.rows, worths), verdict.rows, made.head)


def needs_nothing(made, word):
    """Returns whether a body's own rule tells its head again, whatever is put that the word does not bar."""
    return not made.nones and (word == "single" or not made.nots)


def lacking_rows(made, worths):
    """Returns a list of the rows that single seals over the worths can bar for a body."""
    return [*made.nots, *[row for pattern in made.nones for row in rows_of(pattern, worths)]]


def first_couple(question, word):
    """Returns the first couple of a body that shows that the word is not enough, or None."""
    for rule in answer_rules(question):
        for filling in frozen_fillings(question, rule):
            couple = body_couple(question, rule, filling, word)
            if couple is not None:
                return couple
    return None


def find_need(question):
    """Returns the Need of a flat question; raises NotFlat."""
    check_flat(question)
    rows = first_couple(question, "rows")
    if rows is None:
        return Need("rows", ())
    single = first_couple(question, "single")
    if single is None:
        return Need("single", (rows,))
    return Need("pattern", (rows, single))
