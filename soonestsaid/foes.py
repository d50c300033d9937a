"""Foes: answers to each ask that keep a fact open for more asks than a plan may make."""

from soonestsaid.charts import fits
from soonestsaid.plans import Standings, answered, open_places
from soonestsaid.rows import is_whole


class Foe:
    """The foe's answers at each standing with fewer asks than the number, and what is open behind just as many."""

    def __init__(self, number, turns, ends):
        self.number = number
        self.turns = turns
        self.ends = ends

    def __eq__(self, other):
        return (isinstance(other, Foe) and self.number == other.number and self.turns == other.turns
                and self.ends == other.ends)


def find_foe(chart, number):
    """Returns a Foe, or None if some right plan asks for no more rows than the number."""
    standings = Standings(chart)
    start = (None,) * len(chart.lot)
    if standings.depth(start) <= number:
        return None
    turns = []
    waiting = [start]
    for left in reversed(range(number)):
        further = {}
        for standing in waiting:
            answers = [foe_answer(standings, standing, place, left) for place in range(len(standing))]
            turns.append((standing, tuple(answers)))
            for place in open_places(standing):
                further[answered(standing, place, answers[place])] = True
        waiting = list(further)
    return Foe(number, tuple(turns), tuple([end_at(chart, standing) for standing in waiting]))


def foe_answer(standings, standing, place, left):
    """Returns an answer behind which more than `left` asks are needed, or None if the place was asked."""
    if standing[place] is not None:
        return None
    return standings.depth(answered(standing, place, True)) > left


def end_at(chart, standing):
    """Returns the standing with the first outcomes of either truth that fit it."""
    found = {}
    for outcome, truth in enumerate(chart.truths):
        if fits(standing, outcome):
            found.setdefault(truth, outcome)
    return (standing, found[True], found[False])


def foe_fault(chart, number, foe):
    """Returns None if the foe is right for the chart and the number, else the first fault."""
    if not is_whole(foe.number) or foe.number != number:
        return ("number", 0)
    at = first_wrong(foe.turns, [is_turn(chart, number, turn) for turn in as_tuple(foe.turns)])
    if at is not None:
        return ("turn", at)
    at = first_wrong(foe.ends, [is_end(chart, number, end) for end in as_tuple(foe.ends)])
    if at is not None:
        return ("end", at)
    return fault_of_ways(chart, foe)


def as_tuple(things):
    """Returns the things, or () for what is no tuple."""
    return things if isinstance(things, tuple) else ()


def first_wrong(things, right):
    """Returns the first place at which right is False, 0 if things is no tuple, or None."""
    if not isinstance(things, tuple):
        return 0
    return right.index(False) if False in right else None


def is_standing(chart, thing):
    """Returns whether thing is a tuple with an answer or None for each place."""
    if not isinstance(thing, tuple) or len(thing) != len(chart.lot):
        return False
    return all([entry is None or isinstance(entry, bool) for entry in thing])


def asked_in(standing):
    """Returns how many places are asked."""
    return len(standing) - len(open_places(standing))


def is_turn(chart, number, thing):
    """Returns whether thing is a standing with fewer asks than the number, and an answer for each other place."""
    if not isinstance(thing, tuple) or len(thing) != 2:
        return False
    standing, answers = thing
    if not is_standing(chart, standing) or not is_standing(chart, answers) or asked_in(standing) >= number:
        return False
    return all([(entry is None) != (answer is None) for entry, answer in zip(standing, answers)])


def is_end(chart, number, thing):
    """Returns whether thing is a standing with just so many asks, and an outcome of either truth that fits it."""
    if not isinstance(thing, tuple) or len(thing) != 3:
        return False
    standing, so, not_so = thing
    if not is_standing(chart, standing) or asked_in(standing) != number:
        return False
    if not is_outcome_at(chart, standing, so) or not is_outcome_at(chart, standing, not_so):
        return False
    return chart.truths[so] and not chart.truths[not_so]


def is_outcome_at(chart, standing, thing):
    """Returns whether thing is the number of an outcome that fits the standing."""
    return is_whole(thing, 0, len(chart.truths) - 1) and fits(standing, thing)


def fault_of_ways(chart, foe):
    """Returns the first fault in where the foe's answers lead, or None."""
    reached = set([part[0] for part in (*foe.turns, *foe.ends)])
    if (None,) * len(chart.lot) not in reached:
        return ("start", 0)
    for at, (standing, answers) in enumerate(foe.turns):
        for place in open_places(standing):
            if answered(standing, place, answers[place]) not in reached:
                return ("open", at)
    return None
