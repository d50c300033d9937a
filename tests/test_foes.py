"""Promises 14.7 and 14.8: foes."""

import time
import unittest

from soonestsaid.charts import Chart
from soonestsaid.foes import Foe, find_foe, foe_fault
from soonestsaid.plans import least_plan
from tests.helpers import as_lists, drawing, is_plain, unchanged
from tests.test_charts import NINE, there_in
from tests.test_plans import drawn_chart, own_depth

WRONGS = (None, True, False, 0, 1, "a", (), [], (None,), (None, None), (True, None), {})


def is_standing(thing, places):
    return type(thing) is tuple and len(thing) == places and all(entry is None or type(entry) is bool for entry in thing)


def is_turn(chart, number, turn):
    places = len(chart.lot)
    if type(turn) is not tuple or len(turn) != 2 or not all(is_standing(part, places) for part in turn):
        return False
    standing, answers = turn
    return places - standing.count(None) < number and all((one is None) == (other is not None) for one, other in zip(*turn))


def is_end(chart, number, end):
    places = len(chart.lot)
    if type(end) is not tuple or len(end) != 3 or not is_standing(end[0], places) or places - end[0].count(None) != number:
        return False
    for outcome, truth in zip(end[1:], (True, False)):
        if type(outcome) is not int or not 0 <= outcome < 2 ** places or chart.truths[outcome] is not truth:
            return False
        if any(entry not in (None, there) for entry, there in zip(end[0], there_in(outcome, places))):
            return False
    return True


def own_fault(chart, number, foe):
    """The first fault by the words of the promise."""
    if type(foe.number) is not int or foe.number != number:
        return "number", 0
    for word, things, is_right in (("turn", foe.turns, is_turn), ("end", foe.ends, is_end)):
        if type(things) is not tuple:
            return word, 0
        for at, thing in enumerate(things):
            if not is_right(chart, number, thing):
                return word, at
    known = [turn[0] for turn in foe.turns] + [end[0] for end in foe.ends]
    start = (None,) * len(chart.lot)
    if start not in (known if number else [end[0] for end in foe.ends]):
        return "start", 0
    for at, (standing, answers) in enumerate(foe.turns):
        for place, answer in enumerate(answers):
            if answer is not None and standing[:place] + (answer,) + standing[place + 1:] not in known:
                return "open", at
    return None


def beats(foe, plan):
    """Whether the foe makes a plan ask for more than its number."""
    turns = dict(foe.turns)
    standing, asks = plan_start(foe), 0
    while plan[0] == "ask" and standing in turns:
        answer = turns[standing][plan[1]]
        standing = standing[:plan[1]] + (answer,) + standing[plan[1] + 1:]
        plan, asks = plan[2 + answer], asks + 1
    # Two outcomes of unlike truths are left behind as many asks as the number.
    return plan[0] == "ask" and asks == foe.number


def plan_start(foe):
    return (None,) * len((foe.turns or foe.ends)[0][0])


def changed(draw, chart, foe):
    """The foe with a change at one or two places."""
    parts = {"number": foe.number, "turns": list(foe.turns), "ends": list(foe.ends)}
    for _ in range(draw.choice((1, 1, 2))):
        name = draw.choice(("number", "turns", "turns", "ends", "ends", "type"))
        if name == "number":
            parts["number"] = draw.choice((foe.number + 1, foe.number - 1, True, None, "1", foe.number))
        elif name == "type":
            name = draw.choice(("turns", "ends"))
            return Foe(**{**parts, "turns": tuple(parts["turns"]), "ends": tuple(parts["ends"]), name: draw.choice((
                parts[name], None, {}, (), "ab"))})
        elif parts[name]:
            at = draw.randrange(len(parts[name]))
            kind = draw.choice(("drop", "double", "wrong", "part", "part", "entry", "entry"))
            thing = parts[name][at]
            if kind == "drop":
                del parts[name][at]
            elif kind == "double":
                parts[name].insert(draw.randint(0, len(parts[name])), thing)
            elif kind == "wrong" or type(thing) is not tuple or not thing:
                parts[name][at] = draw.choice((*WRONGS, as_lists(thing)))
            else:
                by = draw.randrange(len(thing))
                part = thing[by]
                if kind == "part" or type(part) is not tuple or not part:
                    part = draw.choice((*WRONGS, *range(2 ** len(chart.lot)), as_lists(part)))
                else:
                    place = draw.randrange(len(part))
                    part = part[:place] + (draw.choice((None, True, False, True, False, 0, 1)),) + part[place + 1:]
                parts[name][at] = thing[:by] + (part,) + thing[by + 1:]
    return Foe(parts["number"], tuple(parts["turns"]), tuple(parts["ends"]))


class FindTest(unittest.TestCase):
    def test_a_foe_exactly_below_the_least_depth(self):
        draw = drawing(351)
        found = {}
        for _ in range(120):
            places = draw.randint(0, 5)
            chart = drawn_chart(draw, places)
            plan = least_plan(chart)
            for number in range(places + 3):
                foe = unchanged(self, find_foe, chart, number)
                self.assertEqual(foe is None, own_depth(plan) <= number)
                if foe is not None:
                    self.assertIsNone(own_fault(chart, number, foe))
                    self.assertIsNone(unchanged(self, foe_fault, chart, number, foe))
                    self.assertTrue(is_plain((foe.turns, foe.ends)))
                    self.assertTrue(beats(foe, plan))
                kind = (number, foe is None)
                found[kind] = found.get(kind, 0) + 1
        for number in range(4):
            self.assertGreater(min(found[(number, True)], found[(number, False)]), 10, found)

    def test_written_out(self):
        self.assertIsNone(find_foe(Chart((), (True,)), 0))
        self.assertIsNone(find_foe(Chart(NINE[:2], (False,) * 4), 0))
        chart = Chart(NINE[:1], (False, True))
        self.assertEqual(find_foe(chart, 0), Foe(0, (), (((None,), 1, 0),)))
        self.assertIsNone(find_foe(chart, 1))
        self.assertIsNone(find_foe(chart, 10 ** 60))

    def test_eight_places_in_seconds(self):
        draw = drawing(352)
        begin = time.process_time()
        parity = Chart(NINE[:8], tuple(sum(there_in(outcome, 8)) % 2 == 1 for outcome in range(256)))
        most = Chart(NINE[:8], tuple(sum(there_in(outcome, 8)) >= 4 for outcome in range(256)))
        for chart in (parity, most, drawn_chart(draw, 8), drawn_chart(draw, 8)):
            depth = own_depth(least_plan(chart))
            for number in (0, 1, 4, 6, 7, 8):
                foe = find_foe(chart, number)
                self.assertEqual(foe is None, depth <= number)
                if foe is not None:
                    self.assertIsNone(foe_fault(chart, number, foe))
        self.assertEqual(len(find_foe(parity, 7).turns[0][1]), 8)
        self.assertLess(time.process_time() - begin, 30)


class FaultTest(unittest.TestCase):
    def test_changed_foes(self):
        draw = drawing(353)
        found = {}
        for _ in range(250):
            places = draw.randint(1, 4)
            chart = drawn_chart(draw, places)
            depth = own_depth(least_plan(chart))
            for number in range(depth):
                foe = find_foe(chart, number)
                for _ in range(3):
                    wrong = changed(draw, chart, foe)
                    expected = own_fault(chart, number, wrong)
                    self.assertEqual(unchanged(self, foe_fault, chart, number, wrong), expected)
                    kind = expected and (expected[0], expected[1] > 0)
                    found[kind] = found.get(kind, 0) + 1
        for kind in (None, ("number", False), ("turn", False), ("turn", True), ("end", False), ("end", True), ("start", False),
                     ("open", False), ("open", True)):
            self.assertGreater(found.get(kind, 0), 10, found)

    def setUp(self):
        # The fact is told if just one of two rows is there.
        self.chart = Chart(NINE[:2], (False, True, True, False))
        self.turns = (((None, None), (True, False)),)
        self.ends = (((True, None), 1, 3), ((None, False), 1, 0))

    def fault(self, **parts):
        return foe_fault(self.chart, 1, Foe(**{"number": 1, "turns": self.turns, "ends": self.ends, **parts}))

    def test_number(self):
        self.assertIsNone(self.fault())
        for wrong in (0, 2, True, None, "1", 1.0, (1,), -1):
            self.assertEqual(foe_fault(self.chart, 1, Foe(wrong, None, None)), ("number", 0))
        self.assertEqual(foe_fault(self.chart, 2, Foe(1, self.turns, self.ends)), ("number", 0))

    def test_turn(self):
        turn = self.turns[0]
        for wrong in (None, [], list(turn), turn + (None,), turn[:1], ([None, None], (True, False)), ((None, None), [True, False]),
                      ((None,), (True,)), ((None, None), (True, None)), ((None, None), (True,)), ((None, None), (1, 0)),
                      ((True, None), (None, True)), ((None, None), (True, False, None)), ((0, None), (None, True))):
            self.assertEqual(self.fault(turns=(wrong,), ends=None), ("turn", 0), wrong)
            self.assertEqual(self.fault(turns=(turn, wrong, wrong)), ("turn", 1), wrong)
        for wrong in (None, list(self.turns), {}, "ab", 3):
            self.assertEqual(self.fault(turns=wrong), ("turn", 0))

    def test_end(self):
        end = self.ends[0]
        for wrong in (None, [], list(end), end[:2], end + (1,), ([True, None], 1, 3), ((True, None, None), 1, 3), ((True, True), 1, 3),
                      ((None, None), 1, 0), ((True, None), 3, 1), ((True, None), 1, 1), ((True, None), 2, 3), ((True, None), 1, 0),
                      ((True, None), True, 3), ((True, None), 1, 4), ((True, None), 1, 7),
                      ((True, None), 5, 3), ((True, None), -1, 3), ((1, None), 1, 3), ((True, None), None, 3)):
            self.assertEqual(self.fault(ends=(wrong,)), ("end", 0), wrong)
            self.assertEqual(self.fault(turns=(), ends=(self.ends[1], end, wrong)), ("end", 2), wrong)
        for wrong in (None, list(self.ends), {}, "ab", 3):
            self.assertEqual(self.fault(ends=wrong), ("end", 0))

    def test_start_and_open(self):
        self.assertEqual(self.fault(turns=()), ("start", 0))
        self.assertEqual(self.fault(turns=(), ends=()), ("start", 0))
        self.assertEqual(self.fault(ends=self.ends[:1]), ("open", 0))
        self.assertEqual(self.fault(ends=()), ("open", 0))
        more = ((None, None), (False, False))
        self.assertEqual(self.fault(turns=(*self.turns, more)), ("open", 1))
        # A standing may stand there twice, and one to which no asking leads, too.
        self.assertIsNone(self.fault(turns=self.turns * 2, ends=(*self.ends, *self.ends, ((False, None), 2, 0))))
        self.assertIsNone(self.fault(turns=(*self.turns, more), ends=(*self.ends, ((False, None), 2, 0))))
        # With the number 0 the first standing is an end.
        self.assertIsNone(foe_fault(self.chart, 0, Foe(0, (), (((None, None), 1, 0),))))
        self.assertEqual(foe_fault(self.chart, 0, Foe(0, (), ())), ("start", 0))
        self.assertEqual(foe_fault(self.chart, 0, Foe(0, self.turns, ())), ("turn", 0))

    def test_results(self):
        foe = Foe(1, self.turns, self.ends)
        self.assertEqual((foe.number, foe.turns, foe.ends), (1, self.turns, self.ends))
        self.assertEqual(foe, Foe(1, self.turns, self.ends))
        for unlike in (Foe(2, self.turns, self.ends), Foe(1, (), self.ends), Foe(1, self.turns, ()), None, (1, self.turns, self.ends)):
            self.assertFalse(foe == unlike)


if __name__ == "__main__":
    unittest.main()
