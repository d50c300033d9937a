"""Promises 14.1 to 14.3: charts, standings, and the views that they are."""

import itertools
import time
import unittest

from soonestsaid.charts import Chart, asking_dealing, asking_view, chart_of, outcome_rows, settled_by
from soonestsaid.dealings import Dealing
from soonestsaid.errors import AlreadyThere, BadRow, BadTables, TooWide
from soonestsaid.meaning import told_facts
from soonestsaid.patterns import all_rows
from soonestsaid.questions import Question
from soonestsaid.sure import is_sure
from soonestsaid.views import View
from soonestsaid.wholes import Whole
from tests.courses import drawn_case
from tests.helpers import as_lists, drawing, is_plain, refuses, shuffled, unchanged

ALONE = ("answer", ("x",), (("row", 0, ("x",)), ("not", 1, ("x",))))
PAID = Question((1, 1), [ALONE])
SEVEN = ("answer", (7,))
NINE = tuple((0, (worth,)) for worth in range(9))
NO_ROWS = ((None, "row"), (3, "row"), ("ab", "row"), ({}, "row"), ([None], "row"), ([(0, (1,)), (0,)], "row"),
           ([(2, (1,))], "table"), ([(True, (1,))], "table"), ([(0, (1, 1))], "width"), ([(0, (-1,))], "worth"),
           ([(0, (True,)), (5, (1,))], "worth"))


def drawn_lot(draw, tables, least=0, most=4, worths=(0, 1, 2)):
    """Rows, and a lot beside them."""
    rows = list(all_rows(tables, worths))
    draw.shuffle(rows)
    many = min(draw.randint(least, most), len(rows))
    return tuple(sorted(rows[many:many + draw.randint(0, 4)])), tuple(sorted(rows[:many]))


def there_in(outcome, places):
    """Whether the row of each place is there."""
    return tuple(bool(outcome // 2 ** place % 2) for place in range(places))


def own_settled(truths, standing):
    """What is settled, each outcome looked at."""
    found = {truth for outcome, truth in enumerate(truths)
             if all(entry in (None, there) for entry, there in zip(standing, there_in(outcome, len(standing))))}
    return found.pop() if len(found) == 1 else None


def standings(places):
    return itertools.product((None, True, False), repeat=places)


class ChartTest(unittest.TestCase):
    def test_outcome_rows(self):
        lot = ((0, (1,)), (0, (2,)), (1, (1,)))
        for outcome, expected in ((0, ()), (1, lot[:1]), (2, lot[1:2]), (3, lot[:2]), (4, lot[2:]), (5, (lot[0], lot[2])), (7, lot)):
            self.assertEqual(unchanged(self, outcome_rows, lot, outcome), expected)
            self.assertEqual(outcome_rows(list(lot), outcome), expected)
        self.assertEqual(outcome_rows((), 0), ())

    def test_charts_by_all_outcomes(self):
        draw = drawing(331)
        found = {True: 0, False: 0, "both": 0}
        for _ in range(120):
            question, _ = drawn_case(draw)
            rows, lot = drawn_lot(draw, question.tables)
            facts = sorted({fact for outcome in (rows, rows + lot) for fact in told_facts(question, outcome)}) or [("answer", ())]
            fact = draw.choice([*facts, ("nobody", ())])
            chart = unchanged(self, chart_of, question, shuffled(draw, rows), shuffled(draw, lot), fact)
            self.assertEqual(chart.lot, lot)
            self.assertTrue(is_plain((chart.lot, chart.truths)))
            self.assertEqual(len(chart.truths), 2 ** len(lot))
            for outcome, truth in enumerate(chart.truths):
                there = tuple(row for row, is_there in zip(lot, there_in(outcome, len(lot))) if is_there)
                self.assertIs(truth, fact in told_facts(question, rows + there))
                self.assertEqual(outcome_rows(lot, outcome), there)
                found[truth] += 1
            found["both"] += len(set(chart.truths)) == 2
            self.assertEqual(chart_of(question, as_lists(rows), as_lists(lot), fact), chart)
        self.assertGreater(min(found.values()), 10, found)

    def test_written_out(self):
        chart = chart_of(PAID, [(0, (7,))], [(1, (8,)), (1, (7,)), (1, (8,))], SEVEN)
        self.assertEqual(chart, Chart(((1, (7,)), (1, (8,))), (True, False, True, False)))
        self.assertEqual(chart_of(PAID, (), (), SEVEN), Chart((), (False,)))
        self.assertEqual(chart_of(PAID, ((0, (7,)),), (), SEVEN), Chart((), (True,)))

    def test_errors_in_their_order(self):
        for wrong, what in NO_ROWS:
            for lot in ((), NINE, None):
                refuses(self, BadRow, {"what": what}, chart_of, PAID, wrong, lot, SEVEN)
            refuses(self, BadRow, {"what": what}, chart_of, PAID, ((0, (1,)),), wrong, SEVEN)
        refuses(self, BadRow, {"what": "table"}, chart_of, PAID, (), [*NINE, (2, (1,))], SEVEN)
        refuses(self, TooWide, {"many": 9}, chart_of, PAID, NINE, NINE, SEVEN)
        refuses(self, TooWide, {"many": 9}, chart_of, PAID, (), [*NINE, NINE[0]], SEVEN)
        refuses(self, TooWide, {"many": 10}, chart_of, PAID, (), [(1, (0,)), *as_lists(NINE)], SEVEN)
        refuses(self, AlreadyThere, {"row": (0, (1,))}, chart_of, PAID, NINE[1:3], [(0, (2,)), [0, [1]], (0, (0,))], SEVEN)
        # Eight unlike rows, some of them twice.
        self.assertEqual(len(chart_of(PAID, (), NINE[:8] * 2, SEVEN).truths), 256)

    def test_eight_rows_in_seconds(self):
        begin = time.process_time()
        question = Question((2,), [("answer", ("x", "z"), [("told", "far", ("x", "z")), ("not", 0, ("z", "x"))]),
                                   ("far", ("x", "y"), [("row", 0, ("x", "y"))]),
                                   ("far", ("x", "z"), [("told", "far", ("x", "y")), ("row", 0, ("y", "z"))])])
        rows = [(0, (worth, worth + 1)) for worth in range(8)]
        chart = chart_of(question, rows[:4], [*rows[4:], (0, (8, 0)), (0, (3, 1)), (0, (1, 5)), (0, (2, 7))], ("answer", (0, 8)))
        self.assertGreater(chart.truths.count(True), 10)
        self.assertLess(time.process_time() - begin, 20)

    def test_results(self):
        chart = Chart([1], None)
        self.assertEqual((chart.lot, chart.truths), ([1], None))
        self.assertEqual(Chart(((0, (1,)),), (True, False)), Chart(((0, (1,)),), (True, False)))
        for unlike in (Chart((), (True, False)), Chart(((0, (1,)),), (True, True)), (((0, (1,)),), (True, False)), None):
            self.assertFalse(Chart(((0, (1,)),), (True, False)) == unlike)


class SettledTest(unittest.TestCase):
    def test_each_standing(self):
        draw = drawing(332)
        found = {True: 0, False: 0, None: 0}
        for _ in range(30):
            places = draw.randint(0, 4)
            chart = Chart(NINE[:places], tuple(draw.random() < draw.choice((0.1, 0.5, 0.9)) for _ in range(2 ** places)))
            for standing in standings(places):
                expected = own_settled(chart.truths, standing)
                self.assertIs(unchanged(self, settled_by, chart, standing), expected)
                self.assertIs(settled_by(chart, list(standing)), expected)
                found[expected] += 1
        self.assertGreater(min(found.values()), 100, found)


class AskingTest(unittest.TestCase):
    def test_the_dealing(self):
        lot = ((0, (7,)), (1, (7,)), (1, (8,)))
        dealing = unchanged(self, asking_dealing, (1, 1), lot)
        self.assertEqual(dealing, Dealing((1, 1), 2, 1, [(0, 0, [(0,)]), (0, 1, [(0,)])], [(row, (1,)) for row in lot]))
        self.assertEqual(asking_dealing([1, 1], as_lists(lot[::-1] + lot)), dealing)
        for row in all_rows((1, 1), (0, 7, 8)):
            self.assertEqual(dealing.homes(row), (1,) if row in lot else (0,))
        self.assertEqual(asking_dealing((3, 2), ()).homes((0, (1, 2, 3))), (0,))

    def test_the_view(self):
        rows, lot = ((0, (7,)), (0, (9,))), ((0, (8,)), (1, (7,)), (1, (8,)))
        stars = ((0, (-1,)), (1, (-1,)))
        dealing = asking_dealing((1, 1), lot)
        for standing in standings(3):
            asked = [place for place in range(3) if standing[place] is not None]
            expected = View(dealing, [
                (0, Whole(rows, stars)), (1, Whole([lot[place] for place in asked if standing[place]], [lot[place] for place in asked]))])
            self.assertEqual(unchanged(self, asking_view, (1, 1), rows, lot, standing), expected)
            self.assertEqual(asking_view([1, 1], as_lists(rows[::-1]), as_lists(lot[::-1] + lot), list(standing)), expected)
            for row, entry in zip(lot, standing):
                self.assertEqual(expected.mark(row), {None: "open", True: "there", False: "lacking"}[entry])
        self.assertEqual(asking_view((1, 1), (), (), ()).settled(), None)

    def test_sure_exactly_if_settled(self):
        draw = drawing(333)
        found = {True: 0, False: 0, None: 0}
        for _ in range(70):
            question, _ = drawn_case(draw)
            rows, lot = drawn_lot(draw, question.tables, 1, 3)
            facts = sorted(set(told_facts(question, rows + lot)) | set(told_facts(question, rows)))
            for fact in draw.sample(facts, min(3, len(facts))):
                chart = chart_of(question, rows, lot, fact)
                for standing in standings(len(lot)):
                    settled = settled_by(chart, standing)
                    self.assertEqual(is_sure(question, asking_view(question.tables, rows, lot, standing), fact), settled is True)
                    found[settled] += 1
        self.assertGreater(min(found.values()), 20, found)

    def test_errors_in_their_order(self):
        for tables, what in ((None, "many"), ((), "many"), ((1, 1, 1, 1), "many"), ((4,), "width"), ((1, True), "width"), ("1", "many")):
            refuses(self, BadTables, {"what": what}, asking_dealing, tables, None)
            refuses(self, BadTables, {"what": what}, asking_view, tables, None, None, None)
        for wrong, what in NO_ROWS:
            refuses(self, BadRow, {"what": what}, asking_dealing, (1, 1), wrong)
            refuses(self, BadRow, {"what": what}, asking_view, (1, 1), wrong, NINE, ())
            refuses(self, BadRow, {"what": what}, asking_view, (1, 1), (), wrong, ())
        refuses(self, TooWide, {"many": 9}, asking_dealing, (1, 1), NINE)
        refuses(self, TooWide, {"many": 9}, asking_view, (1, 1), NINE, NINE * 2, ())
        refuses(self, AlreadyThere, {"row": (0, (1,))}, asking_view, (1, 1), NINE[1:3], NINE[:3], (None, None, None))


if __name__ == "__main__":
    unittest.main()
