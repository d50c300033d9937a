"""Promises 14.4 to 14.6: plans of asking."""

import functools
import itertools
import time
import unittest

from soonestsaid.charts import Chart
from soonestsaid.plans import least_plan, plan_depth, plan_fault, walk_plan
from tests.helpers import as_lists, content, drawing, is_plain, unchanged
from tests.test_charts import NINE, own_settled, there_in

YES, NO = ("tell", True), ("tell", False)


def drawn_chart(draw, places):
    """A chart with truths of some kind."""
    many = 2 ** places
    kind = draw.choice(("even", "rare", "often", "count", "few"))
    if kind == "count":
        least = draw.randint(1, places + 1)
        truths = [sum(there_in(outcome, places)) >= least for outcome in range(many)]
    elif kind == "few":
        lot = [place for place in range(places) if draw.random() < 0.4]
        truths = [any(there_in(outcome, places)[place] for place in lot) for outcome in range(many)]
    else:
        share = {"even": 0.5, "rare": 0.15, "often": 0.85}[kind]
        truths = [draw.random() < share for _ in range(many)]
    return Chart(NINE[:places], tuple(truths))


def own_depth(plan):
    return 0 if plan[0] == "tell" else 1 + max(own_depth(plan[2]), own_depth(plan[3]))


def own_walk(plan, outcome, places):
    way = []
    while plan[0] == "ask":
        there = there_in(outcome, places)[plan[1]]
        way.append((plan[1], there))
        plan = plan[2 + there]
    return tuple(way), plan[1]


def own_fault(truths, places, part, way=()):
    """The way to the first part that is wrong, or None."""
    standing = tuple(dict(way).get(place) for place in range(places))
    if type(part) is not tuple or not part or part[0] not in ("tell", "ask"):
        return way
    if part[0] == "tell":
        return None if len(part) == 2 and type(part[1]) is bool and own_settled(truths, standing) is part[1] else way
    if len(part) != 4 or type(part[1]) is not int or part[1] not in range(places) or part[1] in dict(way):
        return way
    for there in (False, True):
        fault = own_fault(truths, places, part[2 + there], (*way, (part[1], there)))
        if fault is not None:
            return fault
    return None


def all_plans(truths, places, standing):
    """All right plans behind a standing that tell as soon as they can, or ask on."""
    settled = own_settled(truths, standing)
    if settled is not None:
        yield "tell", settled
        return
    for place in range(places):
        if standing[place] is None:
            behind = [list(all_plans(truths, places, standing[:place] + (there,) + standing[place + 1:])) for there in (False, True)]
            for lacking, there in itertools.product(*behind):
                yield "ask", place, lacking, there


def own_least(truths, places):
    """The least plan by the words of the promise."""
    @functools.lru_cache(None)
    def depth(standing):
        if own_settled(truths, standing) is not None:
            return 0
        return 1 + min(max(depth(one), depth(other)) for _, one, other in asks(standing))

    def asks(standing):
        return [(place, standing[:place] + (False,) + standing[place + 1:], standing[:place] + (True,) + standing[place + 1:])
                for place in range(places) if standing[place] is None]

    def plan(standing):
        settled = own_settled(truths, standing)
        if settled is not None:
            return "tell", settled
        best = min((max(depth(one), depth(other)), place, one, other) for place, one, other in asks(standing))[1:]
        return "ask", best[0], plan(best[1]), plan(best[2])
    return plan((None,) * places)


def parts_of(plan, way=()):
    """All parts of a plan, each with its way as a list of branches."""
    yield way, plan
    if plan[0] == "ask":
        yield from parts_of(plan[2], (*way, 2))
        yield from parts_of(plan[3], (*way, 3))


def exchanged(plan, way, part):
    """The plan with another part at a way."""
    if not way:
        return part
    return plan[:way[0]] + (exchanged(plan[way[0]], way[1:], part),) + plan[way[0] + 1:]


def drawn_plan(draw, truths, places, standing=None):
    """A right plan, which may ask more than it needs."""
    standing = standing or (None,) * places
    settled = own_settled(truths, standing)
    free = [place for place in range(places) if standing[place] is None]
    if settled is not None and (not free or draw.random() < 0.7):
        return "tell", settled
    place = draw.choice(free)
    return ("ask", place, *(drawn_plan(draw, truths, places, standing[:place] + (there,) + standing[place + 1:])
                            for there in (False, True)))


class WalkTest(unittest.TestCase):
    def test_depth_and_walk(self):
        draw = drawing(341)
        for _ in range(60):
            places = draw.randint(0, 5)
            chart = drawn_chart(draw, places)
            plan = drawn_plan(draw, chart.truths, places)
            self.assertEqual(unchanged(self, plan_depth, plan), own_depth(plan))
            for outcome, truth in enumerate(chart.truths):
                way, told = unchanged(self, walk_plan, plan, outcome)
                self.assertEqual((way, told), own_walk(plan, outcome, places))
                self.assertIs(told, truth)
                self.assertLessEqual(len(way), own_depth(plan))

    def test_written_out(self):
        plan = ("ask", 1, YES, ("ask", 0, NO, YES))
        self.assertEqual((plan_depth(YES), plan_depth(plan)), (0, 2))
        self.assertEqual(walk_plan(plan, 0), (((1, False),), True))
        self.assertEqual(walk_plan(plan, 2), (((1, True), (0, False)), False))
        self.assertEqual(walk_plan(plan, 3), (((1, True), (0, True)), True))
        self.assertEqual(walk_plan(NO, 5), ((), False))


class FaultTest(unittest.TestCase):
    def test_right_plans(self):
        draw = drawing(342)
        for _ in range(80):
            places = draw.randint(0, 5)
            chart = drawn_chart(draw, places)
            self.assertIsNone(unchanged(self, plan_fault, chart, drawn_plan(draw, chart.truths, places)))

    def test_changed_plans(self):
        draw = drawing(343)
        found = {}
        for _ in range(500):
            places = draw.randint(1, 4)
            chart = drawn_chart(draw, places)
            plan = drawn_plan(draw, chart.truths, places)
            for _ in range(draw.choice((1, 1, 2))):
                way, part = draw.choice(list(parts_of(plan)))
                plan = exchanged(plan, way, self.changed(draw, part, places))
                if own_fault(chart.truths, places, plan) is not None:
                    break
            expected = own_fault(chart.truths, places, plan)
            self.assertEqual(plan_fault(chart, plan), expected, plan)
            kind = None if expected is None else len(expected)
            found[kind] = found.get(kind, 0) + 1
        for kind in (None, 0, 1, 2, 3):
            self.assertGreater(found.get(kind, 0), 10, found)

    def changed(self, draw, part, places):
        """The part with something else in it, which may be as right."""
        kind = draw.choice(("truth", "place", "branch", "list", "word", "more", "thing"))
        if kind == "truth" and part[0] == "tell":
            return "tell", draw.choice((not part[1], 1, 0, None))
        if kind == "place" and part[0] == "ask":
            return ("ask", draw.choice((*range(-1, places + 1), True, None, "0")), *part[2:])
        if kind == "branch" and part[0] == "ask":
            return part[:2] + part[3:1:-1]
        if kind == "list":
            return list(part)
        if kind == "word":
            return (draw.choice(("tell", "ask", "told", None)), *part[1:])
        if kind == "more":
            return draw.choice(((*part, True), part[:-1], ()))
        return draw.choice((None, True, "tell", "ask", {}, YES, NO, ("ask", 0, YES, NO)))

    def test_written_out(self):
        chart = Chart(NINE[:2], (True, False, True, False))
        right = ("ask", 0, YES, NO)
        self.assertIsNone(plan_fault(chart, right))
        # An ask at a settled standing is not wrong.
        self.assertIsNone(plan_fault(chart, ("ask", 0, ("ask", 1, YES, YES), NO)))
        self.assertIsNone(plan_fault(chart, ("ask", 1, right, right)))
        for wrong, way in (
                (YES, ()), (NO, ()), (None, ()), (list(right), ()), (("ask", 0, YES), ()), ((*right, NO), ()), (("tell",), ()), ((), ()),
                (("ask", True, YES, NO), ()), (("ask", 2, YES, NO), ()), (("ask", -1, YES, NO), ()), (("ask", None, YES, NO), ()),
                (("tell", True, True), ()), (("ask", 0, NO, YES), ((0, False),)), (("ask", 0, YES, YES), ((0, True),)),
                (("ask", 0, ["tell", True], NO), ((0, False),)), (("ask", 0, YES, ("ask", 0, NO, NO)), ((0, True),)),
                (("ask", 0, ("ask", 1, YES, NO), YES), ((0, False), (1, True))), (("ask", 1, right, YES), ((1, True),)),
                (("ask", 0, ("tell", 1), NO), ((0, False),)), (("ask", 0, ("ask", 1, None, None), None), ((0, False), (1, False))),
                (("ask", 1, ("ask", 0, YES, ("ask", 1, NO, NO)), YES), ((1, False), (0, True)))):
            self.assertEqual(unchanged(self, plan_fault, chart, wrong), way, wrong)
        self.assertIsNone(plan_fault(Chart((), (True,)), YES))
        self.assertEqual(plan_fault(Chart((), (True,)), NO), ())
        self.assertEqual(plan_fault(Chart((), (True,)), ("ask", 0, YES, YES)), ())


class LeastTest(unittest.TestCase):
    def test_against_all_plans_of_small_charts(self):
        for places in (0, 1, 2):
            for truths in itertools.product((False, True), repeat=2 ** places):
                self.judge(Chart(NINE[:places], truths))
        draw = drawing(344)
        for _ in range(60):
            self.judge(drawn_chart(draw, 3))

    def judge(self, chart):
        """The plan is right, none has less depth, and it is the one that the promise tells."""
        places = len(chart.lot)
        plan = unchanged(self, least_plan, chart)
        plans = list(all_plans(chart.truths, places, (None,) * places))
        self.assertIn(plan, plans)
        self.assertEqual(own_depth(plan), min(own_depth(other) for other in plans))
        self.assertEqual(plan, own_least(chart.truths, places))
        self.assertTrue(is_plain(plan))

    def test_against_the_words_of_the_promise(self):
        draw = drawing(345)
        for _ in range(40):
            places = draw.randint(3, 6)
            chart = drawn_chart(draw, places)
            plan = least_plan(chart)
            self.assertEqual(plan, own_least(chart.truths, places))
            self.assertIsNone(plan_fault(chart, plan))

    def test_written_out(self):
        self.assertEqual(least_plan(Chart((), (False,))), NO)
        self.assertEqual(least_plan(Chart(NINE[:1], (True, True))), YES)
        self.assertEqual(least_plan(Chart(NINE[:2], (True, False, True, False))), ("ask", 0, YES, NO))
        self.assertEqual(least_plan(Chart(NINE[:2], (True, True, False, False))), ("ask", 1, YES, NO))
        # Either place does: the least one is asked.
        self.assertEqual(least_plan(Chart(NINE[:2], (True, True, True, False))), ("ask", 0, YES, ("ask", 1, YES, NO)))
        # Of three rows, place 2 tells which of the others counts.
        truths = tuple((outcome >> 1) % 2 == 1 if outcome < 4 else outcome % 2 == 1 for outcome in range(8))
        self.assertEqual(least_plan(Chart(NINE[:3], truths)), ("ask", 2, ("ask", 1, NO, YES), ("ask", 0, NO, YES)))

    def test_eight_places_in_seconds(self):
        draw = drawing(346)
        begin = time.process_time()
        for places in (7, 8, 8, 8, 8, 8):
            chart = drawn_chart(draw, places)
            held = content(chart)
            plan = least_plan(chart)
            self.assertEqual(content(chart), held)
            self.assertIsNone(plan_fault(chart, plan))
            self.assertLessEqual(plan_depth(plan), places)
        parity = Chart(NINE[:8], tuple(sum(there_in(outcome, 8)) % 2 == 1 for outcome in range(256)))
        self.assertEqual(plan_depth(least_plan(parity)), 8)
        self.assertEqual(least_plan(Chart(as_lists(NINE[:8]), [outcome >= 128 for outcome in range(256)])), ("ask", 7, NO, YES))
        self.assertLess(time.process_time() - begin, 20)


if __name__ == "__main__":
    unittest.main()
