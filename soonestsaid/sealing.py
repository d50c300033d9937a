"""Which seals are enough for a question, and why fewer are not."""

from soonestsaid.errors import BadCouple, UnlikeTables
from soonestsaid.fillings import find_fillings, ground
from soonestsaid.meaning import Given
from soonestsaid.needs import Couple, answer_rules, check_flat, couple_fault, find_need, known_worths
from soonestsaid.patterns import all_rows
from soonestsaid.questions import Question
from soonestsaid.rows import check_rows, renamed_rows, sorted_things, worths_of
from soonestsaid.telling import holds_beside


def enough_seals(question, rows):
    """Returns patterns that make each answer of the rows sure if all houses seal them; raises BadRow, NotFlat."""
    given = check_rows(question.tables, rows)
    word = find_need(question).word
    if word == "rows":
        return ()
    return single_seals(question, given) if word == "single" else pattern_seals(question, given)


def single_seals(question, rows):
    """Returns the rows over the known worths that are not there and that a rule may ask not to be there."""
    tables = [table for number in answer_rules(question) for table in barring_tables(question.rules[number])]
    wanted = all_rows(question.tables, known_worths(question, rows))
    return tuple([row for row in wanted if row[0] in tables and row not in rows])


def barring_tables(rule):
    """Returns a list of the tables of a rule's 'not' and 'none' conditions."""
    nots = [condition[1] for condition in rule[2] if condition[0] == "not"]
    return nots + [condition[1][0] for condition in rule[2] if condition[0] == "none"]


def pattern_seals(question, rows):
    """Returns the 'not' rows and 'none' patterns of each filling that tells an answer for exactly these rows."""
    found = []
    basis = Given(rows)
    for number in answer_rules(question):
        for filling in find_fillings(question, number, rows):
            made = ground(question, number, filling)
            if holds_beside(basis, made):
                found.extend([*made.nots, *made.nones])
    return sorted_things(found)


def lead_beyond(question, couple, rows):
    """Returns the couple with its new worths led beyond all worths; raises BadRow, NotFlat, BadCouple."""
    given = check_rows(question.tables, rows)
    check_flat(question)
    fault = couple_fault(question, couple, "single")
    if fault is not None:
        raise BadCouple(fault)
    known = known_worths(question, couple.inner)
    greatest = max(known_worths(question, [*given, *couple.outer]))
    new = [worth for worth in worths_of(couple.outer) if worth not in known]
    names = {worth: greatest + 1 + at for at, worth in enumerate(new)}
    return Couple(couple.inner, renamed_rows(couple.outer, names), couple.fact)


def join_questions(one, other):
    """Returns the question with the rules of both; raises UnlikeTables, BadQuestion."""
    if one.tables != other.tables:
        raise UnlikeTables()
    return Question(one.tables, one.rules + other.rules)
