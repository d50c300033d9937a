"""Promise 14.9: probes."""

import itertools
import time
import unittest

from soonestsaid.charts import Chart
from soonestsaid.probes import least_probes, settles
from tests.helpers import drawing, is_plain, unchanged
from tests.test_charts import NINE, there_in
from tests.test_plans import drawn_chart


def own_settles(chart, outcome, places):
    many = len(chart.lot)
    here = there_in(outcome, many)
    return len({truth for other, truth in enumerate(chart.truths)
                if all(there_in(other, many)[place] == here[place] for place in places)}) == 1


class ProbesTest(unittest.TestCase):
    def test_by_all_lots_of_places(self):
        draw = drawing(363)
        sizes = {}
        for _ in range(70):
            places = draw.randint(0, 4)
            chart = drawn_chart(draw, places)
            lots = [lot for many in range(places + 1) for lot in itertools.combinations(range(places), many)]
            for outcome in range(2 ** places):
                settling = [lot for lot in lots if own_settles(chart, outcome, lot)]
                for lot in lots:
                    self.assertIs(unchanged(self, settles, chart, outcome, lot), lot in settling)
                    self.assertIs(settles(chart, outcome, list(lot)[::-1] * 2), lot in settling)
                expected = [lot for lot in settling if not any(set(other) < set(lot) for other in settling)]
                found = unchanged(self, least_probes, chart, outcome)
                self.assertEqual(found, tuple(sorted(expected)))
                self.assertTrue(is_plain(found))
                self.assertGreater(len(found), 0)
                self.assertEqual(found == ((),), len(set(chart.truths)) == 1)
                for probe in found:
                    sizes[len(probe)] = sizes.get(len(probe), 0) + 1
                # Unlike lengths stand side by side.
                sizes["unlike"] = sizes.get("unlike", 0) + (len({len(probe) for probe in found}) > 1)
        self.assertGreater(min(sizes[size] for size in (0, 1, 2, 3, "unlike")), 10, sizes)

    def test_written_out(self):
        # Told if row 0 is there, or both others are.
        chart = Chart(NINE[:3], tuple(outcome % 2 == 1 or outcome == 6 for outcome in range(8)))
        self.assertEqual(least_probes(chart, 7), ((0,), (1, 2)))
        self.assertEqual(least_probes(chart, 1), ((0,),))
        self.assertEqual(least_probes(chart, 0), ((0, 1), (0, 2)))
        self.assertEqual(least_probes(chart, 2), ((0, 2),))
        self.assertEqual((settles(chart, 6, (1, 2)), settles(chart, 6, (1,)), settles(chart, 6, ())), (True, False, False))
        self.assertEqual(least_probes(Chart((), (False,)), 0), ((),))
        self.assertEqual(least_probes(Chart(NINE[:2], (True,) * 4), 3), ((),))

    def test_eight_places_in_seconds(self):
        draw = drawing(362)
        begin = time.process_time()
        most = Chart(NINE[:8], tuple(sum(there_in(outcome, 8)) >= 4 for outcome in range(256)))
        for outcome in range(256):
            there = [place for place in range(8) if there_in(outcome, 8)[place]]
            expected = itertools.combinations(there, 4) if len(there) >= 4 else itertools.combinations(
                [place for place in range(8) if place not in there], 5)
            self.assertEqual(least_probes(most, outcome), tuple(expected))
        chart = drawn_chart(draw, 8)
        for outcome in range(0, 256, 5):
            for probe in least_probes(chart, outcome):
                self.assertTrue(settles(chart, outcome, probe))
        self.assertLess(time.process_time() - begin, 30)


if __name__ == "__main__":
    unittest.main()
