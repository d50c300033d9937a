"""Promises 6.1 to 6.5: wholes."""

import itertools
import unittest

from soonestsaid.errors import Forked, Sealed
from soonestsaid.wholes import Whole
from tests.helpers import as_lists, drawing, drawn_pattern, drawn_rows, is_plain, refuses, shuffled, unchanged

FAR = 10 ** 60
TABLES = (1, 2)


def matches(pattern, row):
    return pattern[0] == row[0] and all(cell in (-1, worth) for cell, worth in zip(pattern[1], row[1]))


def drawn_whole(draw, worths=(0, 1), most=3):
    rows = drawn_rows(draw, TABLES, worths, most)
    seals = sorted({drawn_pattern(draw, TABLES, worths) for _ in range(draw.randint(0, 2))})
    return Whole(shuffled(draw, rows), shuffled(draw, seals))


def content(whole):
    return (whole.rows, whole.seals)


def steps_lead(one, other):
    """Whether adding what the other one has further, in some order, is never refused and leads to it."""
    steps = [("row", row) for row in other.rows if row not in one.rows]
    steps += [("seal", seal) for seal in other.seals if seal not in one.seals]
    for order in itertools.permutations(steps):
        whole = one
        try:
            for kind, thing in order:
                whole = whole.with_row(thing) if kind == "row" else whole.with_seal(thing)
        except Sealed:
            continue
        if content(whole) == content(other):
            return True
    return False


class WholeTest(unittest.TestCase):
    def test_any_order_and_doubles(self):
        draw = drawing(81)
        for _ in range(200):
            rows = drawn_rows(draw, TABLES, (0, 1, FAR), 5)
            seals = tuple(sorted({drawn_pattern(draw, TABLES, (0, 1, FAR)) for _ in range(draw.randint(0, 5))}))
            given = shuffled(draw, rows), shuffled(draw, seals)
            for passed in (given, as_lists(given), (tuple(given[0]), tuple(given[1]))):
                whole = unchanged(self, Whole, *passed)
                self.assertEqual(content(whole), (rows, seals))
                self.assertTrue(is_plain(content(whole)))

    def test_empty(self):
        self.assertEqual(content(Whole()), ((), ()))
        self.assertEqual(content(Whole([(0, (1,))])), (((0, (1,)),), ()))
        self.assertEqual(content(Whole((), [(0, (-1,))])), ((), ((0, (-1,)),)))
        self.assertEqual(content(Whole(seals=[(0, (-1,))], rows=())), ((), ((0, (-1,)),)))

    def test_nothing_is_checked(self):
        whole = Whole([(9, (1, 2, 3, 4)), (0, (5,))], [(0, (5,)), (7, (-1,)), (0, (-1,))])
        self.assertEqual(whole.rows, ((0, (5,)), (9, (1, 2, 3, 4))))
        # A row under a seal is let, and a seal within another one is kept.
        self.assertEqual(whole.seals, ((0, (-1,)), (0, (5,)), (7, (-1,))))

    def test_later_changes_mean_nothing(self):
        rows, seals = as_lists([(0, (1,)), (1, (2, 3))]), as_lists([(0, (-1,))])
        whole = Whole(rows, seals)
        rows[0][1][0] = 9
        seals[0][1][0] = 9
        rows.pop()
        seals.clear()
        self.assertEqual(content(whole), (((0, (1,)), (1, (2, 3))), ((0, (-1,)),)))

    def test_equal(self):
        one = Whole([(0, (1,)), (0, (2,))], [(0, (-1,))])
        self.assertTrue(one == Whole([(0, (2,)), (0, (1,)), (0, (2,))], [(0, (-1,)), (0, (-1,))]))
        self.assertFalse(one != Whole([(0, (1,)), (0, (2,))], [(0, (-1,))]))
        for other in (Whole([(0, (1,))], [(0, (-1,))]), Whole([(0, (1,)), (0, (2,))]), content(one), None, 0, one.rows):
            self.assertFalse(one == other)
            self.assertTrue(one != other)
        self.assertTrue(Whole() == Whole())


class AddingTest(unittest.TestCase):
    def test_has_row_and_first_seal(self):
        draw = drawing(82)
        for _ in range(200):
            whole = drawn_whole(draw, (0, 1, FAR), 4)
            for row in [*drawn_rows(draw, TABLES, (0, 1, 2, FAR), 6), *whole.rows]:
                self.assertIs(unchanged(self, whole.has_row, row), row in whole.rows)
                over = [seal for seal in whole.seals if matches(seal, row)]
                self.assertEqual(unchanged(self, whole.first_seal, row), min(over, default=None))

    def test_with_row(self):
        draw = drawing(83)
        refused = 0
        for _ in range(300):
            whole = drawn_whole(draw)
            before = content(whole)
            for row in drawn_rows(draw, TABLES, (0, 1), 4):
                over = [seal for seal in whole.seals if matches(seal, row)]
                if row in whole.rows:
                    self.assertEqual(whole.with_row(row), whole)
                elif over:
                    refuses(self, Sealed, {"pattern": min(over)}, whole.with_row, row)
                    refused += 1
                else:
                    found = unchanged(self, whole.with_row, row)
                    self.assertEqual(content(found), (tuple(sorted([*whole.rows, row])), whole.seals))
                self.assertEqual(content(whole), before)
        self.assertGreater(refused, 30)

    def test_a_row_under_a_seal(self):
        whole = Whole([(0, (4,))], [(0, (-1,)), (0, (4,)), (1, (-1, -1))])
        self.assertEqual(whole.with_row((0, (4,))), whole)
        refuses(self, Sealed, {"pattern": (0, (-1,))}, whole.with_row, (0, (5,)))
        refuses(self, Sealed, {"pattern": (1, (-1, -1))}, whole.with_row, (1, (5, 4)))
        self.assertEqual(whole.with_row([0, [4]]), whole)
        self.assertEqual(Whole().with_row([0, [4]]), Whole([(0, (4,))]))
        # The row need not be there for its first seal.
        self.assertEqual(whole.first_seal((0, (4,))), (0, (-1,)))
        self.assertEqual(Whole([], [(0, (5,)), (0, (4,))]).first_seal((0, (4,))), (0, (4,)))
        self.assertIsNone(Whole([], [(0, (5,)), (0, (4,))]).first_seal((0, (6,))))

    def test_with_seal(self):
        draw = drawing(84)
        for _ in range(200):
            whole = drawn_whole(draw)
            before = content(whole)
            pattern = drawn_pattern(draw, TABLES, (0, 1))
            found = unchanged(self, whole.with_seal, pattern)
            self.assertEqual(content(found), (whole.rows, tuple(sorted({*whole.seals, pattern}))))
            self.assertEqual(content(found.with_seal(pattern)), content(found))
            self.assertEqual(content(whole), before)

    def test_any_order_of_adding(self):
        rows = [(0, (1,)), (1, (FAR, 2)), (0, (0,)), (0, (1,))]
        seals = [(1, (3, -1)), (0, (7,)), (1, (3, -1))]
        things = [("row", row) for row in rows] + [("seal", seal) for seal in seals]
        draw = drawing(85)
        for _ in range(50):
            draw.shuffle(things)
            whole = Whole()
            for kind, thing in things:
                whole = whole.with_row(thing) if kind == "row" else whole.with_seal(thing)
            self.assertEqual(whole, Whole(rows, seals))


class GrownTest(unittest.TestCase):
    def test_against_orders_of_adding(self):
        draw = drawing(86)
        found = {True: 0, False: 0}
        for _ in range(500):
            one = drawn_whole(draw, most=2)
            other = Whole([*drawn_rows(draw, TABLES, (0, 1), 2), *(one.rows if draw.random() < 0.8 else ())],
                          [*drawn_whole(draw).seals[:1], *(one.seals if draw.random() < 0.8 else ())])
            expected = set(one.rows) <= set(other.rows) and set(one.seals) <= set(other.seals) and steps_lead(one, other)
            before = content(one), content(other)
            self.assertIs(one.grown(other), expected, before)
            self.assertEqual((content(one), content(other)), before)
            found[expected] += 1
        self.assertGreater(min(found.values()), 50)

    def test_written_out(self):
        one = Whole([(0, (4,))], [(0, (5,))])
        for rows, seals, expected in (
                ([(0, (4,))], [(0, (5,))], True), ([(0, (4,)), (0, (6,))], [(0, (5,)), (0, (-1,))], True),
                ([(0, (4,)), (0, (5,))], [(0, (5,))], False), ([], [(0, (5,))], False), ([(0, (4,))], [], False),
                ([(0, (4,))], [(0, (-1,))], False), ([(0, (4,)), (0, (6,))], [(0, (5,)), (0, (6,))], True)):
            self.assertIs(one.grown(Whole(rows, seals)), expected)
        # A row under a seal of both that both have does no harm.
        both = Whole([(0, (4,))], [(0, (4,))])
        self.assertIs(both.grown(both), True)
        self.assertIs(Whole().grown(both), True)
        self.assertIs(both.grown(Whole()), False)


class JoinedTest(unittest.TestCase):
    def test_joined_or_forked(self):
        draw = drawing(87)
        forked = 0
        for _ in range(500):
            one, other = drawn_whole(draw), drawn_whole(draw)
            before = content(one), content(other)
            refused = [row for left, right in ((one, other), (other, one)) for row in left.rows
                       if row not in right.rows and any(matches(seal, row) for seal in right.seals)]
            if refused:
                for left, right in ((one, other), (other, one)):
                    refuses(self, Forked, {"row": min(refused)}, left.joined, right)
                forked += 1
            else:
                found = one.joined(other)
                self.assertEqual(content(found), (
                    tuple(sorted({*one.rows, *other.rows})), tuple(sorted({*one.seals, *other.seals}))))
                self.assertEqual(other.joined(one), found)
                self.assertTrue(one.grown(found) and other.grown(found))
            self.assertEqual((content(one), content(other)), before)
        self.assertTrue(100 < forked < 400, forked)

    def test_least_beyond_both(self):
        draw = drawing(88)
        grown = 0
        for _ in range(300):
            one, other = drawn_whole(draw, most=2), drawn_whole(draw, most=2)
            further = [Whole([*one.rows, *other.rows, *drawn_rows(draw, TABLES, (0, 1), 2)],
                             [*one.seals, *other.seals, *drawn_whole(draw).seals]) for _ in range(5)]
            beyond = [whole for whole in further if one.grown(whole) and other.grown(whole)]
            if beyond:
                # If anything grew out of both, they can be joined, and it grew out of the joined one.
                joined = one.joined(other)
                for whole in beyond:
                    self.assertTrue(joined.grown(whole))
                    grown += 1
        self.assertGreater(grown, 100)

    def test_the_least_row_of_either(self):
        one = Whole([(0, (1,)), (0, (7,))], [(0, (3,)), (0, (2,))])
        other = Whole([(0, (2,)), (0, (3,))], [(0, (7,))])
        refuses(self, Forked, {"row": (0, (2,))}, one.joined, other)
        refuses(self, Forked, {"row": (0, (2,))}, other.joined, one)
        other = Whole([(0, (3,))], [(0, (-1,))])
        refuses(self, Forked, {"row": (0, (1,))}, one.joined, other)
        refuses(self, Forked, {"row": (0, (1,))}, other.joined, one)
        refuses(self, Forked, {"row": (0, (1,))}, Whole([(0, (1,))]).joined, Whole((), [(0, (1,))]))

    def test_rows_that_both_have(self):
        one, other = Whole([(0, (1,))], [(0, (-1,))]), Whole([(0, (1,)), (1, (2, 2))])
        self.assertEqual(content(one.joined(other)), (((0, (1,)), (1, (2, 2))), ((0, (-1,)),)))
        self.assertEqual(one.joined(Whole()), Whole([(0, (1,))], [(0, (-1,))]))


if __name__ == "__main__":
    unittest.main()
