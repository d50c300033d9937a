"""Probes: the least lots of places that settle the truth of an outcome."""

from soonestsaid.charts import is_there


def settles(chart, outcome, places):
    """Returns whether all outcomes that agree with the outcome at the places have one truth."""
    found = [truth for other, truth in enumerate(chart.truths)
             if all([is_there(other, place) == is_there(outcome, place) for place in places])]
    return found.count(found[0]) == len(found)


def least_probes(chart, outcome):
    """Returns all lots of places that settle the outcome and of which no place can be left out, ascending."""
    places = range(len(chart.lot))
    # In which places the outcomes of the other truth differ; a lot is the number of an outcome, too.
    unlike = [other ^ outcome for other, truth in enumerate(chart.truths) if truth != chart.truths[outcome]]
    settling = [all([chosen & other != 0 for other in unlike]) for chosen in range(1 << len(chart.lot))]
    found = []
    for lot, settled in enumerate(settling):
        probe = tuple([place for place in places if is_there(lot, place)])
        if settled and not any([settling[lot - (1 << place)] for place in probe]):
            found.append(probe)
    return tuple(sorted(found))
