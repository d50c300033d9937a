"""Foil courses: a house hears the same, and in the end a fact is not told."""

from soonestsaid.errors import SayError
from soonestsaid.hearings import first_difference, heard_by
from soonestsaid.meaning import told_facts
from soonestsaid.nets import play_course
from soonestsaid.patterns import star_patterns
from soonestsaid.rows import are_plain_rows, is_sequence, is_whole
from soonestsaid.sure import Sure, find_verdict

MAKING = ("send", "double")
NAMING = ("double", "hand")


class FoilCourse:
    """A course in whose first `heard` deeds a house hears the same, and whose rows do not tell a fact."""

    def __init__(self, deeds, heard, rows):
        self.deeds = deeds
        self.heard = heard
        self.rows = rows

    def __eq__(self, other):
        return (isinstance(other, FoilCourse) and self.deeds == other.deeds and self.heard == other.heard
                and self.rows == other.rows)


def past_deeds(net, house):
    """Returns the deeds of a net on which a house's hearing rests, their letters numbered anew."""
    past = {number: True for number in net.past(house)}
    names = {}
    deeds = []
    letter = 0
    for number, deed in enumerate(net.course):
        if number in past:
            deeds.append((deed[0], names[deed[1]]) if deed[0] in NAMING else deed)
        if deed[0] in MAKING:
            if number in past:
                names[letter] = len(names)
            letter += 1
    return tuple(deeds)


def foil_course(net, house, fact):
    """Returns a FoilCourse of a house and a fact, or None if the house is sure of the fact."""
    view = net.houses[house].view
    verdict = find_verdict(net.question, view, fact)
    if isinstance(verdict, Sure):
        return None
    past = past_deeds(net, house)
    puts = [("put", row) for row in verdict.rows if row not in view.rows]
    houses = range(net.dealing.houses)
    seals = [("seal", other, pattern) for other in houses for pattern in star_patterns(net.dealing.tables)]
    letters = len([deed for deed in past if deed[0] in MAKING])
    told = []
    for at, other in enumerate([other for other in houses if other != house]):
        told.extend([("send", other, house), ("hand", letters + at)])
    return FoilCourse((*past, *puts, *seals, *told), len(past), verdict.rows)


def foil_course_fault(net, house, fact, foil):
    """Returns None if this is a foil course of the house and the fact, else the word of the first fault."""
    if not is_sequence(foil.deeds):
        return "deeds"
    try:
        end = play_course(net.question, net.dealing, foil.deeds).end()
    except SayError:
        return "deeds"
    if not is_whole(foil.heard, 0, len(foil.deeds)):
        return "heard"
    heard = heard_by(net.dealing, foil.deeds, house, foil.heard)
    if first_difference(heard, heard_by(net.dealing, net.course, house)) is not None:
        return "heard"
    if not are_plain_rows(net.question.tables, foil.rows) or foil.rows != end:
        return "rows"
    return "fact" if fact in told_facts(net.question, foil.rows) else None
