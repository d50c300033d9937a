"""Promises 6.6 to 6.14: views."""

import time
import unittest

from soonestsaid.dealings import Dealing
from soonestsaid.errors import BadView, Forked, NotLet, Torn
from soonestsaid.views import View
from soonestsaid.wholes import Whole
from tests.helpers import content, drawing, drawn_pattern, drawn_row, drawn_rows, refuses, shuffled, unchanged
from tests.worlds import FAR, World, matches, one_house, played_wholes, small_dealing, small_view, worths_in

TABLES = (1, 2)
# House 0 has the rows of rest 0, house 1 those of rest 1, both have (0, (4,)).
DEALING = Dealing((1,), 2, 2, [(0, 0, [(0,)]), (1, 0, [(1,)])], [((0, (4,)), (0, 1))])
NO_SEQUENCES = (None, 3, True, "ab", "", {}, {0: 1}, set(), {1}, Whole())


def drawn_tables(draw, most=2):
    return tuple(draw.randint(1, most) for _ in range(draw.randint(1, 2)))


def loose_wholes(draw, dealing, worths):
    """Wholes whose rows have their homes, but that no net need have had."""
    return [(house, Whole(
        dealing.part_of(drawn_rows(draw, dealing.tables, worths, 4), house),
        [drawn_pattern(draw, dealing.tables, worths) for _ in range(draw.choice((0, 0, 1, 2)))]))
        for house in range(dealing.houses)]


def torn_rows(dealing, wholes):
    """All rows that a house has and another one, a home of it, lacks and has sealed."""
    return sorted({row for _, whole in wholes for row in whole.rows for house, other in wholes
                   if house in dealing.homes(row) and row not in other.rows
                   and any(matches(seal, row) for seal in other.seals)})


class BadViewTest(unittest.TestCase):
    def fault(self, what, at, dealing, wholes):
        refuses(self, BadView, {"what": what, "at": at}, View, dealing, wholes)

    def test_wholes(self):
        for wholes in NO_SEQUENCES:
            self.fault("wholes", 0, DEALING, wholes)

    def test_couples(self):
        good = (0, Whole([(0, (4,))]))
        for couple in (*NO_SEQUENCES, (), (0,), (0, Whole(), 1), (0, None), (0, ((), ())), (0, Dealing), [1, "ab"],
                       (Whole(), 0)):
            self.fault("couple", 0, DEALING, [couple])
            self.fault("couple", 1, DEALING, (good, couple))
            self.fault("couple", 1, DEALING, (good, couple, (0, Whole([(7, ())]))))

    def test_houses(self):
        good = (0, Whole([(0, (4,))]))
        for house in (-1, 2, FAR, True, False, None, "0", 0.0, (0,), [0]):
            self.fault("house", 0, DEALING, [(house, Whole([(0, (1, 1))], [(3, ())]))])
            self.fault("house", 1, DEALING, [good, (house, Whole([(0, (1, 1))]))])
        self.fault("house", 1, DEALING, [good, good])
        self.fault("house", 1, DEALING, [(1, Whole()), (0, Whole())])
        # A whole without rows and seals counts for the order, too.
        self.fault("house", 1, DEALING, [(1, Whole()), (0, Whole([(0, (5,))]))])
        self.fault("house", 2, DEALING, [(0, Whole()), (1, Whole([(0, (5,))])), (1, Whole())])

    def test_rows(self):
        for row in ((1, (4,)), (0, ()), (0, (4, 4)), (0, (-1,)), (0, (True,)), (True, (4,)), (-1, (4,)), (0, (5,))):
            self.fault("row", 0, DEALING, [(0, Whole([row], [(9, ())]))])
            self.fault("row", 1, DEALING, [[0, Whole()], [1, Whole([(0, (2,)), (0, (5,))], [(0, (-1,))])]])
        # An exception takes a home from a row, and gives it one.
        dealing = Dealing((1,), 2, 1, [(0, 0, [(0,)])], [((0, (4,)), (1,))])
        self.fault("row", 0, dealing, [(0, Whole([(0, (3,)), (0, (4,))]))])
        self.fault("row", 0, dealing, [(1, Whole([(0, (3,)), (0, (4,))]))])
        self.assertEqual(View(dealing, [(1, Whole([(0, (4,))]))]).rows, ((0, (4,)),))

    def test_seals(self):
        for seal in ((1, (4,)), (0, ()), (0, (4, -1)), (0, (-2,)), (0, (True,)), (True, (4,)), (-1, (-1,))):
            self.fault("seal", 0, DEALING, [(0, Whole([(0, (4,))], [seal])), (0, Whole())])
            self.fault("seal", 1, DEALING, [(0, Whole([], [(0, (5,))])), (1, Whole((), [(0, (-1,)), seal]))])

    def test_the_first_couple_at_fault(self):
        bad = {"couple": 5, "house": (7, Whole()), "row": (1, Whole([(0, (2,))], [(0, ())])),
               "seal": (1, Whole([], [(0, ())]))}
        for one in bad:
            for other in bad:
                self.fault(one, 1, DEALING, [(0, Whole()), bad[one], bad[other]])
        # Torn comes last.
        torn = [(0, Whole([(0, (4,))])), (1, Whole([], [(0, (4,))]))]
        refuses(self, Torn, {"row": (0, (4,))}, View, DEALING, torn)
        self.fault("seal", 1, DEALING, [torn[0], (1, Whole([], [(0, (4,)), (0, (4, 4))]))])

    def test_torn(self):
        draw = drawing(101)
        torn = 0
        for _ in range(600):
            dealing = small_dealing(draw, drawn_tables(draw), (0, 1))
            wholes = loose_wholes(draw, dealing, (0, 1))
            expected = torn_rows(dealing, wholes)
            if expected:
                refuses(self, Torn, {"row": expected[0]}, View, dealing, wholes)
                torn += 1
            else:
                self.assertEqual(unchanged(self, View, dealing, wholes).dealing, dealing)
        self.assertTrue(50 < torn < 500, torn)

    def test_nets_are_never_torn(self):
        draw = drawing(102)
        for _ in range(300):
            dealing = small_dealing(draw, drawn_tables(draw))
            wholes = played_wholes(draw, dealing, (0, 1, 2), 10)
            self.assertEqual(torn_rows(dealing, list(enumerate(wholes))), [])
            View(dealing, list(enumerate(wholes)))

    def test_a_seal_of_no_home_does_not_tear(self):
        view = View(DEALING, [(0, Whole([(0, (6,))])), (1, Whole([], [(0, (6,))]))])
        self.assertEqual(view.rows, ((0, (6,)),))


class AttributesTest(unittest.TestCase):
    def test_attributes(self):
        draw = drawing(103)
        for _ in range(300):
            dealing = small_dealing(draw, drawn_tables(draw), (0, 1, FAR))
            heard = played_wholes(draw, dealing, (0, 1, 5, FAR), 8)
            couples = [(house, whole) for house, whole in enumerate(heard)
                       if whole.rows or whole.seals or draw.random() < 0.5]
            view = unchanged(self, View, dealing, couples)
            for given in (tuple(couples), [list(couple) for couple in couples]):
                self.assertEqual(View(dealing, given), view)
            full = [(house, whole) for house, whole in enumerate(heard) if whole.rows or whole.seals]
            self.assertEqual(view.wholes, tuple(full))
            self.assertTrue(all(isinstance(couple, tuple) for couple in view.wholes))
            world = World(dealing, full)
            self.assertEqual(view.rows, world.rows)
            self.assertEqual(view.worths, tuple(world.worths))
            for house in range(dealing.houses):
                self.assertEqual(unchanged(self, view.whole_of, house), heard[house])

    def test_later_changes_have_no_effect(self):
        couples = [[0, Whole([(0, (4,))])]]
        view = View(DEALING, couples)
        before = content(view)
        couples[0][1] = Whole()
        couples.append(3)
        self.assertEqual(content(view), before)

    def test_a_bare_view(self):
        view = View(DEALING)
        self.assertEqual((view.wholes, view.rows, view.worths), ((), (), (4,)))
        self.assertEqual(view.whole_of(1), Whole())

    def test_equal(self):
        view = View(DEALING, [(0, Whole([(0, (4,))]))])
        self.assertEqual(view, View(DEALING, ((0, Whole([(0, (4,))])), (1, Whole()))))
        other = Dealing((1,), 2, 2, [(1, 0, [(1,)]), (0, 0, [(0,)])], [((0, (4,)), (0, 1))])
        self.assertEqual(view, View(other, [(0, Whole([(0, (4,))]))]))
        for unlike in (View(DEALING), View(DEALING, [(1, Whole([(0, (4,))]))]),
                       View(DEALING, [(0, Whole([(0, (4,))], [(0, (4,))]))]),
                       View(one_house((1,)), [(0, Whole([(0, (4,))]))]), view.wholes, None, Whole()):
            self.assertFalse(view == unlike)
            self.assertTrue(view != unlike)


class MarkTest(unittest.TestCase):
    def test_against_many_rows(self):
        draw = drawing(104)
        found = {"there": 0, "lacking": 0, "open": 0}
        for _ in range(300):
            view = small_view(draw, drawn_tables(draw), (0, 1, 5), 8)
            world = World(view.dealing, view.wholes)
            for row in world.all_rows():
                expected = world.mark(row)
                self.assertEqual(view.mark(row), expected)
                self.assertIs(view.lacks(row), expected == "lacking")
                found[expected] += 1
            for row in (drawn_row(draw, view.dealing.tables, (0, 1, 5, 77, FAR)) for _ in range(5)):
                self.assertEqual(unchanged(self, view.mark, row), world.mark(row))
        self.assertGreater(min(found.values()), 300)

    def test_seals_count_for_homes_alone(self):
        view = View(DEALING, [(1, Whole([], [(0, (-1,))]))])
        self.assertEqual([view.mark((0, (worth,))) for worth in (0, 1, 4, FAR, FAR + 1)],
                         ["open", "lacking", "lacking", "open", "lacking"])
        # One home of several is enough.
        view = View(DEALING, [(0, Whole([], [(0, (4,))]))])
        self.assertEqual(view.mark((0, (4,))), "lacking")

    def test_lets(self):
        draw = drawing(105)
        found = {True: 0, False: 0}
        for _ in range(600):
            view = small_view(draw, drawn_tables(draw), (0, 1), 5)
            world = World(view.dealing, view.wholes)
            rows = drawn_rows(draw, view.dealing.tables, (0, 1, 2), 3)
            if draw.random() < 0.8:
                rows = [*rows, *view.rows]
            given = shuffled(draw, rows)
            expected = world.lets(rows)
            self.assertIs(unchanged(self, view.lets, given), expected)
            self.assertIs(view.lets(tuple(given)), expected)
            found[expected] += 1
        self.assertGreater(min(found.values()), 100)

    def test_what_is_let_can_be_put(self):
        draw = drawing(106)
        tried = 0
        for _ in range(400):
            view = small_view(draw, (1,), (0, 1, 2), 5)
            rows = {*view.rows, *drawn_rows(draw, (1,), (0, 1, 2, 3), 3)}
            wholes = [view.whole_of(house) for house in range(view.dealing.houses)]
            refused = False
            for row in sorted(rows - set(view.rows)):
                for house in view.dealing.homes(row):
                    refused = refused or wholes[house].first_seal(row) is not None
            self.assertIs(view.lets(sorted(rows)), not refused)
            tried += refused
        self.assertGreater(tried, 50)

    def test_the_example(self):
        view = View(DEALING, [(0, Whole([(0, (4,))], [(0, (-1,))]))])
        self.assertEqual([view.mark((0, (worth,))) for worth in (4, 6, 1)], ["there", "lacking", "open"])
        self.assertEqual(view.first_open((0, (-1,))), (0, (1,)))
        self.assertIs(view.lets([(0, (4,)), (0, (3,))]), True)
        self.assertIs(view.lets([(0, (4,)), (0, (2,))]), False)


class OpenTest(unittest.TestCase):
    def test_against_many_rows(self):
        draw = drawing(107)
        found = {"yes": 0, "no": 0, "open": 0}
        for _ in range(500):
            view = small_view(draw, drawn_tables(draw), (0, 1, 5), 8)
            world = World(view.dealing, view.wholes)
            pattern = drawn_pattern(draw, view.dealing.tables, (0, 1, 5, 9))
            rows = [row for row in world.rows_of(pattern) if world.mark(row) == "open"]
            self.assertEqual(unchanged(self, view.first_open, pattern), min(rows, default=None))
            expected = world.empty(pattern)
            self.assertEqual(unchanged(self, view.empty, pattern), expected)
            self.assertIs(view.without(pattern), expected == "yes")
            found[expected] += 1
            all_open = [row for row in world.all_rows() if world.mark(row) == "open"]
            self.assertEqual(unchanged(self, view.settled), min(all_open, default=None))
        self.assertGreater(min(found.values()), 50)

    def test_three_columns(self):
        draw = drawing(108)
        found = {True: 0, False: 0}
        for _ in range(60):
            view = small_view(draw, (3,), (0, 1), 6, most_houses=2, most_modulus=2)
            world = World(view.dealing, view.wholes)
            for pattern in (drawn_pattern(draw, (3,), (0, 1)), (0, (-1, -1, -1))):
                rows = [row for row in world.rows_of(pattern) if world.mark(row) == "open"]
                self.assertEqual(view.first_open(pattern), min(rows, default=None))
                found[bool(rows)] += 1
        self.assertGreater(min(found.values()), 5)

    def test_seals_of_single_rows_close_no_stars(self):
        rows = [(0, (worth,)) for worth in (*range(20), FAR)]
        view = View(one_house((1,)), [(0, Whole([], rows))])
        self.assertEqual(view.first_open((0, (-1,))), (0, (20,)))
        self.assertEqual(view.empty((0, (-1,))), "open")
        self.assertEqual(view.settled(), (0, (20,)))
        self.assertEqual(view.empty((0, (FAR,))), "yes")
        self.assertIsNone(view.first_open((0, (3,))))

    def test_closing_groups_close(self):
        draw = drawing(109)
        found = {"yes": 0, "open": 0}
        for _ in range(150):
            dealing = small_dealing(draw, drawn_tables(draw))
            pattern = drawn_pattern(draw, dealing.tables, (0, 1))
            group = [house for house in range(dealing.houses) if draw.random() < 0.6]
            view = View(dealing, [(house, Whole([], [pattern])) for house in group])
            closed = any(set(closing) <= set(group) for closing in dealing.closing_groups(pattern))
            self.assertEqual(view.empty(pattern), "yes" if closed else "open")
            found["yes" if closed else "open"] += 1
        self.assertGreater(min(found.values()), 30)

    def test_sealed_for_all_rests_apart(self):
        # Together the seals of both houses close the pattern, though neither covers the other's rows.
        view = View(DEALING, [(0, Whole([(0, (4,))], [(0, (-1,))])), (1, Whole([(0, (4,))], [(0, (-1,))]))])
        self.assertIsNone(view.settled())
        self.assertEqual(view.empty((0, (-1,))), "no")
        view = View(DEALING, [(0, Whole([], [(0, (-1,))])), (1, Whole([], [(0, (-1,))]))])
        self.assertEqual(view.empty((0, (-1,))), "yes")

    def test_in_seconds(self):
        draw = drawing(110)
        worths = [0, 1, 5, 17, *(FAR + at for at in range(8))]
        begin = time.process_time()
        for modulus in (1, 3):
            dealing = Dealing((3,), 5, modulus, [(house, 0, [tuple(range(modulus))] * 3) for house in range(5)],
                              [((0, (worth, worth, worth)), (0, 1)) for worth in worths[:8]])
            seals = [drawn_pattern(draw, (3,), worths) for _ in range(40)]
            view = View(dealing, [(0, Whole([], [*seals, (0, (-1, -1, 3))])), (1, Whole([], seals[:20]))])
            view.settled()
            # Every row lacks but those of new worths alone.
            seals = [(0, tuple(worth if at == column else -1 for at in range(3)))
                     for worth in worths for column in range(3)]
            other = View(dealing, [(0, Whole([], seals)), (3, Whole([], seals))])
            self.assertNotIn(other.first_open((0, (-1, -1, -1)))[1][0], worths)
            self.assertTrue(other.widens(View(dealing)))
            for one, two in ((other, view), (view, other)):
                self.assertIs(one.widens(two), one.settled() is None)
        self.assertLess(time.process_time() - begin, 10)


class WidensTest(unittest.TestCase):
    def expected(self, one, other):
        modulus = 6
        worlds = World(one.dealing, one.wholes), World(other.dealing, other.wholes)
        fillers = worlds[0].fillers(modulus, {*worlds[0].worths, *worlds[1].worths})
        for row in worlds[0].all_rows(fillers):
            mark = worlds[1].mark(row)
            if mark != "open" and worlds[0].mark(row) != mark:
                return False
        return True

    def test_against_many_rows(self):
        draw = drawing(111)
        found = {True: 0, False: 0}
        for _ in range(500):
            tables = draw.choice(((1,), (1,), (2,), (1, 1)))
            one = small_view(draw, tables, (0, 1, 4), 9)
            other = small_view(draw, tables, (0, 1, 4), 3)
            if draw.random() < 0.3:
                one = one.ended([row for row in one.rows])
            expected = self.expected(one, other)
            self.assertIs(unchanged(self, one.widens, other), expected)
            found[expected] += 1
        self.assertGreater(min(found.values()), 80)

    def test_moduli_together(self):
        # Over rests by 2 and by 3: the other one lacks what has rest 1 by 2 and rest 2 by 3, among others.
        halves = Dealing((1,), 2, 2, [(0, 0, [(0,)]), (1, 0, [(1,)])])
        thirds = Dealing((1,), 3, 3, [(0, 0, [(0,)]), (1, 0, [(1,)]), (2, 0, [(2,)])])
        sealed = Whole([], [(0, (-1,))])
        self.assertIs(View(halves, [(1, sealed)]).widens(View(thirds, [(2, sealed)])), False)
        self.assertIs(View(halves, [(0, sealed), (1, sealed)]).widens(View(thirds, [(2, sealed)])), True)
        self.assertIs(View(thirds, [(0, sealed), (2, sealed)]).widens(View(halves, [(1, sealed)])), False)
        both = [(0, sealed), (1, sealed), (2, sealed)]
        self.assertIs(View(thirds, both).widens(View(halves, [(1, sealed)])), True)

    def test_there_and_lacking(self):
        dealing = one_house((1,))
        there, lacking = View(dealing, [(0, Whole([(0, (1,))]))]), View(dealing, [(0, Whole([], [(0, (1,))]))])
        for one, other, expected in ((there, lacking, False), (lacking, there, False), (there, View(dealing), True),
                                     (View(dealing), there, False), (View(dealing), lacking, False),
                                     (lacking, lacking, True), (there, there, True)):
            self.assertIs(one.widens(other), expected)

    def test_inputs_let(self):
        draw = drawing(112)
        for _ in range(200):
            tables = draw.choice(((1,), (1, 1)))
            one, other = small_view(draw, tables, (0, 1), 5), small_view(draw, tables, (0, 1), 2)
            if one.widens(other):
                for _ in range(10):
                    rows = sorted({*one.rows, *drawn_rows(draw, tables, (0, 1, 2, 3), 3)})
                    if one.lets(rows):
                        self.assertTrue(other.lets(rows))


class JoinedTest(unittest.TestCase):
    def test_joined_forked_or_torn(self):
        draw = drawing(113)
        found = {"joined": 0, "forked": 0, "torn": 0}
        while min(found.values()) < 60:
            dealing = small_dealing(draw, drawn_tables(draw), (0, 1))
            wholes = [loose_wholes(draw, dealing, (0, 1)) for _ in range(2)]
            if any(torn_rows(dealing, part) for part in wholes):
                continue
            one, other = (View(dealing, part) for part in wholes)
            forked = []
            joined = []
            for house in range(dealing.houses):
                left, right = one.whole_of(house), other.whole_of(house)
                rows = [row for here, there in ((left, right), (right, left)) for row in here.rows
                        if row not in there.rows and any(matches(seal, row) for seal in there.seals)]
                forked.extend([min(rows)] if rows else [])
                joined.append((house, Whole(left.rows + right.rows, left.seals + right.seals)))
            torn = torn_rows(dealing, joined)
            for left, right in ((one, other), (other, one)):
                if forked:
                    refuses(self, Forked, {"row": forked[0]}, left.joined, right)
                elif torn:
                    refuses(self, Torn, {"row": torn[0]}, left.joined, right)
                else:
                    both = unchanged(self, left.joined, right)
                    self.assertEqual(both, View(dealing, joined))
                    self.assertTrue(both.widens(one) and both.widens(other))
            found["forked" if forked else "torn" if torn else "joined"] += 1

    def test_forked_ahead_of_torn(self):
        dealing = Dealing((1,), 2, 1, [(0, 0, [(0,)]), (1, 0, [(0,)])])
        one = View(dealing, [(0, Whole([(0, (1,)), (0, (9,))])), (1, Whole([(0, (1,))]))])
        other = View(dealing, [(1, Whole([], [(0, (1,))]))])
        refuses(self, Forked, {"row": (0, (1,))}, one.joined, other)
        other = View(dealing, [(1, Whole([], [(0, (9,))]))])
        refuses(self, Torn, {"row": (0, (9,))}, one.joined, other)
        # The first house counts, not the least row.
        one = View(dealing, [(0, Whole([(0, (8,))])), (1, Whole([(0, (2,))]))])
        other = View(dealing, [(0, Whole([], [(0, (8,))])), (1, Whole([], [(0, (2,))]))])
        refuses(self, Forked, {"row": (0, (8,))}, one.joined, other)

    def test_in_any_order(self):
        draw = drawing(114)
        for _ in range(100):
            dealing = small_dealing(draw, drawn_tables(draw))
            source = drawing(draw.randrange(10 ** 6))
            wholes = played_wholes(source, dealing, (0, 1, 2), 8)
            views = [View(dealing, [(house, whole)]) for house, whole in enumerate(wholes)]
            views.append(View(dealing))
            whole = View(dealing, list(enumerate(wholes)))
            for _ in range(3):
                joined = View(dealing)
                for view in shuffled(draw, views):
                    joined = joined.joined(view)
                self.assertEqual(joined, whole)


class EndedTest(unittest.TestCase):
    def test_ended(self):
        draw = drawing(115)
        found = {True: 0, False: 0}
        for _ in range(500):
            view = small_view(draw, drawn_tables(draw), (0, 1), 5)
            world = World(view.dealing, view.wholes)
            rows = {*drawn_rows(draw, view.dealing.tables, (0, 1, 2), 3)}
            rows |= set(view.rows) if draw.random() < 0.8 else set()
            given = shuffled(draw, sorted(rows))
            wrong = [row for row in world.rows if row not in rows] + [row for row in rows if world.lacks(row)]
            self.assertIs(view.lets(given), not wrong)
            found[not wrong] += 1
            if wrong:
                refuses(self, NotLet, {"row": min(wrong)}, view.ended, given)
                continue
            end = unchanged(self, view.ended, given)
            self.assertEqual(end.rows, tuple(sorted(rows)))
            self.assertIsNone(end.settled())
            self.assertTrue(end.widens(view))
            stars = tuple((table, (-1,) * width) for table, width in enumerate(view.dealing.tables))
            for house in range(view.dealing.houses):
                self.assertEqual(end.whole_of(house), Whole(
                    [row for row in rows if house in view.dealing.homes(row)], view.whole_of(house).seals + stars))
            for other in (sorted(rows)[1:], [*rows, (0, (7,) * view.dealing.tables[0])]):
                self.assertIs(end.lets(other), sorted(other) == sorted(rows))
        self.assertGreater(min(found.values()), 80)

    def test_the_least_wrong_row(self):
        view = View(one_house((1,)), [(0, Whole([(0, (5,))], [(0, (3,)), (0, (7,))]))])
        for rows, row in (([(0, (3,))], (0, (3,))), ([(0, (7,))], (0, (5,))), ([], (0, (5,))),
                          ([(0, (7,)), (0, (5,)), (0, (9,))], (0, (7,)))):
            refuses(self, NotLet, {"row": row}, view.ended, rows)


class KnownWorthsTest(unittest.TestCase):
    def test_worths_decide_by_column(self):
        # The worths of one column do not stand in the way in another one.
        view = View(one_house((2,)), [(0, Whole([], [(0, (0, -1)), (0, (-1, 1))]))])
        self.assertEqual(view.first_open((0, (-1, -1))), (0, (1, 0)))
        self.assertEqual(view.worths, (0, 1))
        self.assertEqual(worths_in(view.whole_of(0).seals), {0, 1})


if __name__ == "__main__":
    unittest.main()
