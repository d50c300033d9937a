"""Plans of asking, and those of least depth."""

from soonestsaid.charts import is_there, settled_by
from soonestsaid.rows import is_whole


def is_tell(plan):
    """Returns whether the plan has the form of one that tells at once."""
    return isinstance(plan, tuple) and len(plan) == 2 and plan[0] == "tell"


def is_ask(plan):
    """Returns whether the plan has the form of one that asks."""
    return isinstance(plan, tuple) and len(plan) == 4 and plan[0] == "ask"


def plan_depth(plan):
    """Returns the greatest number of asks on a way of the plan."""
    if is_tell(plan):
        return 0
    return 1 + max(plan_depth(plan[2]), plan_depth(plan[3]))


def walk_plan(plan, outcome):
    """Returns the (place, there) of the asks that are made in the outcome, and the truth told behind them."""
    way = []
    part = plan
    while not is_tell(part):
        there = is_there(outcome, part[1])
        way.append((part[1], there))
        part = part[3] if there else part[2]
    return (tuple(way), part[1])


def plan_fault(chart, plan):
    """Returns None if the plan is right for the chart, else the way to the first part that is wrong."""
    return fault_behind(chart, plan, (None,) * len(chart.lot), ())


def fault_behind(chart, part, standing, way):
    """Returns the way to the first wrong part from this part on, which stands behind the way, or None."""
    if is_tell(part):
        right = isinstance(part[1], bool) and part[1] == settled_by(chart, standing)
        return None if right else way
    if not is_ask(part) or not is_whole(part[1], 0, len(standing) - 1) or standing[part[1]] is not None:
        return way
    for there in (False, True):
        further = (*way, (part[1], there))
        fault = fault_behind(chart, part[3] if there else part[2], answered(standing, part[1], there), further)
        if fault is not None:
            return fault
    return None


def answered(standing, place, there):
    """Returns the standing with the answer to an ask of a place entered."""
    return (*standing[:place], there, *standing[place + 1:])


def open_places(standing):
    """Returns a list of the places that are not asked."""
    return [place for place, entry in enumerate(standing) if entry is None]


class Standings:
    """What can be told at each standing of a chart, and how many asks are needed there, each found once."""

    def __init__(self, chart):
        self._chart = chart
        self._truths = {}
        self._depths = {}

    def truth(self, standing):
        """Returns the truth that is settled, or None."""
        if standing not in self._truths:
            self._truths[standing] = self._find_truth(standing)
        return self._truths[standing]

    def _find_truth(self, standing):
        places = open_places(standing)
        if not places:
            return settled_by(self._chart, standing)
        lacking = self.truth(answered(standing, places[0], False))
        there = self.truth(answered(standing, places[0], True))
        return lacking if lacking == there else None

    def depth(self, standing):
        """Returns the least depth of a plan from this standing on."""
        if standing not in self._depths:
            settled = self.truth(standing) is not None
            self._depths[standing] = 0 if settled else 1 + self.depth_behind(standing, self.best_place(standing))
        return self._depths[standing]

    def depth_behind(self, standing, place):
        """Returns the greater of the two least depths behind an ask of the place."""
        return max(self.depth(answered(standing, place, False)), self.depth(answered(standing, place, True)))

    def best_place(self, standing):
        """Returns the least of the places behind which the depth is least; the standing is not settled."""
        found = [(self.depth_behind(standing, place), place) for place in open_places(standing)]
        return min(found)[1]

    def plan(self, standing):
        """Returns the least plan from this standing on."""
        truth = self.truth(standing)
        if truth is not None:
            return ("tell", truth)
        place = self.best_place(standing)
        return ("ask", place, *[self.plan(answered(standing, place, there)) for there in (False, True)])


def least_plan(chart):
    """Returns the right plan of least depth, which asks the least place where several are as good."""
    return Standings(chart).plan((None,) * len(chart.lot))
