"""Promises 5.1 to 5.9: dealings."""

import itertools
import unittest

from soonestsaid.dealings import Dealing
from soonestsaid.errors import BadDealing
from tests.helpers import as_lists, drawing, drawn_pattern, drawn_row, is_plain, refuses, shuffled, unchanged

FAR = 10 ** 60
NO_SEQUENCES = (None, 3, True, "ab", "", {}, {0: 1}, set(), {1})
ACCEPTS = ((0, 0, ((0,),)), (1, 0, ((1,),)), (1, 1, ((0, 1), (0, 1))))


def drawn_dealing(draw, special=(0, 1, 2, 3, 5, 9, FAR)):
    """A right dealing's arguments, accepts and exceptions in any order."""
    tables = tuple(draw.randint(1, 3) for _ in range(draw.randint(1, 3)))
    houses = draw.randint(1, 5)
    modulus = draw.randint(1, 3)
    accepts = []
    for table, width in enumerate(tables):
        for rests in itertools.product(range(modulus), repeat=width):
            if len(accepts) < 30:
                columns = tuple(tuple(sorted({rest, *draw.sample(range(modulus), draw.randint(0, modulus - 1))}))
                                for rest in rests)
                accepts.append((draw.randrange(houses), table, columns))
            else:
                # One entry for all rests that are left keeps the number of entries low.
                accepts.append((draw.randrange(houses), table, (tuple(range(modulus)),) * width))
                break
    rows = sorted({drawn_row(draw, tables, special) for _ in range(draw.randint(0, 8))})
    exceptions = [(row, drawn_group(draw, houses)) for row in rows]
    return tables, houses, modulus, shuffled(draw, accepts)[:40], shuffled(draw, exceptions, doubles=False)


def drawn_group(draw, houses, least=1):
    return tuple(sorted(draw.sample(range(houses), draw.randint(least, houses))))


def homes_of(tables, houses, modulus, accepts, exceptions, row):
    """The homes of a row, by its exception or by each accept."""
    for other, group in exceptions:
        if other == row:
            return group
    return tuple(house for house in range(houses) if any(
        taker == house and table == row[0] and all(worth % modulus in column for worth, column in zip(row[1], columns))
        for taker, table, columns in accepts))


def many_rows(dealing, pattern):
    """Rows of the pattern that stand for all: each column has all special worths and more of each rest than are taken."""
    taken = {*dealing.special, *range(4)}
    for rest in range(dealing.modulus):
        taken.update([worth for worth in range(rest, 60, dealing.modulus) if worth not in dealing.special][:2])
    taken = sorted(taken)
    columns = [taken if cell == -1 else [cell] for cell in pattern[1]]
    return [(pattern[0], worths) for worths in itertools.product(*columns)]


class BadDealingTest(unittest.TestCase):
    def fault(self, what, at, *args):
        refuses(self, BadDealing, {"what": what, "at": at}, Dealing, *args)

    def test_tables(self):
        for tables in (*NO_SEQUENCES, (), (1, 1, 1, 1), (0,), (4,), (True,), ("1",), [1, 0]):
            self.fault("tables", 0, tables, 2, 2, ACCEPTS)
            self.fault("tables", 0, tables, 0, 0, None, None)

    def test_houses(self):
        for houses in (0, 6, -1, FAR, True, False, None, "2", 2.0, (2,)):
            self.fault("houses", 0, (1, 2), houses, 2, ACCEPTS)
            self.fault("houses", 0, (1, 2), houses, 0, None, None)

    def test_modulus(self):
        for modulus in (0, 4, -1, FAR, True, None, "2", 2.0):
            self.fault("modulus", 0, (1, 2), 2, modulus, ACCEPTS)
            self.fault("modulus", 0, (1, 2), 2, modulus, None, None)

    def test_accepts(self):
        for accepts in NO_SEQUENCES:
            self.fault("accepts", 0, (1, 2), 2, 2, accepts)
            self.fault("accepts", 0, (1, 2), 2, 2, accepts, None)
        self.fault("accepts", 0, (1, 2), 2, 2, [ACCEPTS[0]] * 39 + list(ACCEPTS[1:]))
        self.fault("accepts", 0, (1, 2), 2, 2, [None] * 41)
        self.assertEqual(Dealing((1, 2), 2, 2, [ACCEPTS[0]] * 38 + list(ACCEPTS[1:])).accepts, ACCEPTS)

    def test_accept(self):
        for entry in (*NO_SEQUENCES, (), (0, 0), (0, 0, ((0,),), 0), [0],
                      (-1, 0, ((0,),)), (2, 0, ((0,),)), (True, 0, ((0,),)), (None, 0, ((0,),)), ("0", 0, ((0,),)),
                      (0, -1, ((0,),)), (0, -1, ((0,), (0,))), (0, 2, ((0,),)), (0, False, ((0,),)), (0, None, ((0,),)),
                      *[(0, 0, rests) for rests in NO_SEQUENCES], (0, 0, ()), (0, 0, ((0,), (0,))), (0, 1, ((0,),)),
                      (0, 1, ((0,),) * 3), *[(0, 0, (column,)) for column in NO_SEQUENCES], (0, 0, ((),)), (0, 0, ((2,),)),
                      (0, 0, ((-1,),)), (0, 0, ((1, 0),)), (0, 0, ((0, 0),)), (0, 0, ((True,),)), (0, 0, ((0, True),)),
                      (0, 0, (("0",),)), (0, 1, ((0,), ())), (0, 1, ((0,), (1, 1)))):
            for at in range(4):
                accepts = [*ACCEPTS[:at], entry, *ACCEPTS[at:]]
                self.fault("accept", at, (1, 2), 2, 2, accepts)
                self.fault("accept", at, (1, 2), 2, 2, tuple(accepts) + (None,), None)

    def test_exceptions(self):
        row = (0, (4,))
        for exceptions in (*NO_SEQUENCES, [((0, (k,)), (0,)) for k in range(9)], [None] * 9):
            self.fault("exceptions", 0, (1, 2), 2, 2, ACCEPTS, exceptions)
            self.fault("exceptions", 0, (1, 2), 2, 2, ACCEPTS[:1], exceptions)
        self.fault("exceptions", 0, (1, 2), 2, 2, ACCEPTS, [(row, (0,))] * 9)
        self.assertEqual(len(Dealing((1, 2), 2, 2, ACCEPTS, [((0, (k,)), (0,)) for k in range(8)]).exceptions), 8)

    def test_exception(self):
        row = (0, (4,))
        right = [((0, (k,)), (0,)) for k in range(3)]
        for entry in (*NO_SEQUENCES, (), (row,), (row, (0,), 0), (None, (0,)), ((0, (4, 4)), (0,)), ((2, (4,)), (0,)),
                      ((0, (-1,)), (0,)), ((0, (True,)), (0,)), ("0", (0,)), ((True, (1, 1)), (0,)),
                      *[(row, group) for group in NO_SEQUENCES], (row, ()), (row, (2,)), (row, (-1,)), (row, (1, 0)),
                      (row, (0, 0)), (row, (True,)), (row, (0, None)), (row, ("0",))):
            for at in range(4):
                exceptions = [*right[:at], entry, *right[at:]]
                self.fault("exception", at, (1, 2), 2, 2, ACCEPTS, exceptions)
                self.fault("exception", at, (1, 2), 2, 2, ACCEPTS[:1], tuple(exceptions) + (None,))

    def test_a_row_that_stands_earlier(self):
        entry = ((1, (4, 5)), (0,))
        other = ((1, (5, 4)), (0,))
        for again in (entry, ((1, (4, 5)), (1,)), [[1, [4, 5]], [0, 1]]):
            self.fault("exception", 1, (1, 2), 2, 2, ACCEPTS, [entry, again])
            self.fault("exception", 2, (1, 2), 2, 2, ACCEPTS, [entry, other, again, None])

    def test_homeless(self):
        for drop, table in ((0, 0), (1, 0), (2, 1)):
            accepts = [accept for at, accept in enumerate(ACCEPTS) if at != drop]
            self.fault("homeless", table, (1, 2), 2, 2, accepts)
            # Exceptions do not help.
            exceptions = [((0, (k,)), (0, 1)) for k in range(4)] + [((1, (k, k)), (0, 1)) for k in range(4)]
            self.fault("homeless", table, (1, 2), 2, 2, accepts, exceptions)
        self.fault("homeless", 0, (1, 2), 2, 2, [])
        self.fault("homeless", 1, (1, 2), 2, 2, ACCEPTS[:2])
        self.fault("homeless", 2, (1, 2, 1), 2, 2, ACCEPTS)
        self.fault("homeless", 0, (2,), 1, 2, [(0, 0, ((0,), (0, 1))), (0, 0, ((1,), (1,)))])
        self.fault("homeless", 0, (2,), 1, 3, [(0, 0, ((0, 1, 2), (0, 2)))])
        self.fault("homeless", 0, (3,), 1, 2, [
            (0, 0, tuple((rest,) for rest in rests)) for rests in itertools.product((0, 1), repeat=3)][:-1])
        self.fault("homeless", 0, (2,), 2, 2, [(0, 0, ((0,), (0, 1))), (1, 0, ((0, 1), (0,)))])
        Dealing((2,), 2, 2, [(0, 0, ((0,), (0, 1))), (1, 0, ((0, 1), (0,))), (1, 0, ((1,), (1,)))])

    def test_the_first_fault(self):
        self.fault("accept", 1, (1, 2), 2, 2, [ACCEPTS[0], None, 5], None)
        self.fault("exceptions", 0, (1, 2), 2, 2, [], None)
        self.fault("exception", 0, (1, 2), 2, 2, [], [None])


class AttributesTest(unittest.TestCase):
    def test_attributes(self):
        draw = drawing(71)
        for _ in range(100):
            args = drawn_dealing(draw)
            tables, houses, modulus, accepts, exceptions = args
            for given in (args, as_lists(args), (list(tables), houses, modulus, tuple(accepts), tuple(exceptions))):
                dealing = unchanged(self, Dealing, *given)
                self.assertEqual((dealing.tables, dealing.houses, dealing.modulus), (tables, houses, modulus))
                self.assertEqual(dealing.accepts, tuple(sorted(set(accepts))))
                self.assertEqual(dealing.exceptions, tuple(sorted(exceptions)))
                self.assertEqual(dealing.special, tuple(sorted({w for row, _ in exceptions for w in row[1]})))
                for found in (dealing.tables, dealing.accepts, dealing.exceptions, dealing.special):
                    self.assertTrue(is_plain(found))

    def test_no_exceptions(self):
        dealing = Dealing((1, 2), 2, 2, ACCEPTS)
        self.assertEqual((dealing.exceptions, dealing.special), ((), ()))

    def test_later_changes_mean_nothing(self):
        args = as_lists(((1, 2), 2, 2, ACCEPTS, [((0, (4,)), (0, 1))]))
        dealing = Dealing(*args)
        args[0][0] = 3
        args[3][0][2][0][0] = 1
        args[3].pop()
        args[4][0][1].pop()
        args[4][0][0][1][0] = 6
        self.assertEqual(dealing, Dealing((1, 2), 2, 2, ACCEPTS, [((0, (4,)), (0, 1))]))
        self.assertEqual(dealing.homes((0, (4,))), (0, 1))
        self.assertEqual(dealing.homes((0, (6,))), (0,))

    def test_equal(self):
        dealing = Dealing((1, 2), 2, 2, ACCEPTS, [((0, (4,)), (0, 1))])
        self.assertTrue(dealing == Dealing([1, 2], 2, 2, ACCEPTS[::-1] + ACCEPTS, [[[0, [4]], [0, 1]]]))
        self.assertFalse(dealing != Dealing((1, 2), 2, 2, ACCEPTS, [((0, (4,)), (0, 1))]))
        for other in (Dealing((1, 2), 3, 2, ACCEPTS, [((0, (4,)), (0, 1))]), Dealing((1, 2), 2, 2, ACCEPTS),
                      Dealing((1, 2), 2, 2, ACCEPTS, [((0, (4,)), (1,))]),
                      Dealing((1, 2), 2, 2, [*ACCEPTS, (0, 0, ((1,),))], [((0, (4,)), (0, 1))]),
                      (dealing.tables, 2, 2, dealing.accepts, dealing.exceptions), None, 5):
            self.assertFalse(dealing == other)
            self.assertTrue(dealing != other)
        whole = [(0, 0, ((0,),))]
        self.assertTrue(Dealing((1,), 1, 1, whole) != Dealing((1,), 2, 1, whole))
        wide = [(0, 0, ((0, 1),)), (0, 1, ((0, 1),))]
        self.assertTrue(Dealing((1,), 1, 2, wide[:1]) != Dealing((1, 1), 1, 2, wide))
        wider = [(0, 0, ((0, 1),)), (0, 0, ((0,),)), (0, 0, ((0, 1),))]
        self.assertTrue(Dealing((1,), 1, 2, wider) != Dealing((1,), 1, 2, wider[:1]))


class HomesTest(unittest.TestCase):
    def test_example(self):
        dealing = Dealing((1,), 2, 2, [(0, 0, [(0,)]), (1, 0, [(1,)])], [((0, (4,)), (0, 1))])
        self.assertEqual(dealing.homes((0, (6,))), (0,))
        self.assertEqual(dealing.homes((0, (4,))), (0, 1))
        self.assertEqual(dealing.home_groups((0, (-1,))), ((0,), (0, 1), (1,)))
        self.assertEqual(dealing.missed_row((1,), (0, (-1,))), (0, (0,)))
        self.assertEqual(dealing.closing_groups((0, (-1,))), ((0, 1),))

    def test_homes_and_parts(self):
        draw = drawing(72)
        for _ in range(150):
            args = drawn_dealing(draw)
            dealing = Dealing(*args)
            rows = [drawn_row(draw, args[0], (0, 1, 2, 3, 5, 9, FAR, FAR + 1)) for _ in range(10)]
            rows.extend(row for row, _ in args[4])
            homes = {row: homes_of(*args, row) for row in rows}
            for row in rows:
                self.assertEqual(unchanged(self, dealing.homes, row), homes[row])
                self.assertTrue(homes[row])
            given = shuffled(draw, rows)
            for house in range(dealing.houses):
                expected = tuple(sorted({row for row in rows if house in homes[row]}))
                for passed in (given, tuple(given)):
                    self.assertEqual(unchanged(self, dealing.part_of, passed, house), expected)

    def test_no_rows(self):
        dealing = Dealing((1, 2), 2, 2, ACCEPTS)
        self.assertEqual(dealing.part_of((), 0), ())
        self.assertEqual(dealing.part_of([], 1), ())

    def test_far_worths(self):
        dealing = Dealing((1, 2), 2, 2, ACCEPTS, [((0, (FAR,)), (1,))])
        self.assertEqual(dealing.homes((0, (FAR,))), (1,))
        self.assertEqual(dealing.homes((0, (FAR + 2,))), (0,))
        self.assertEqual(dealing.homes((0, (FAR + 1,))), (1,))
        self.assertEqual(dealing.home_groups((0, (FAR,))), ((1,),))
        self.assertEqual(dealing.home_groups((0, (FAR + 2,))), ((0,),))


class AllRowsTest(unittest.TestCase):
    """What speaks of all rows, against many rows that stand for all."""

    def setUp(self):
        self.draw = drawing(73)

    def cases(self, many):
        for _ in range(many):
            special = self.draw.choice(((0, 1, 2, 3), (0, 1, 2, 4, 7), (5, FAR), (0, 2, 4)))
            args = drawn_dealing(self.draw, special)
            dealing = Dealing(*args)
            pattern = drawn_pattern(self.draw, args[0], special)
            yield dealing, pattern, [(row, homes_of(*args, row)) for row in many_rows(dealing, pattern)]

    def drawn_numbers(self, houses):
        numbers = [*drawn_group(self.draw, houses, 0), *self.draw.sample((-1, 7, FAR, houses), self.draw.randint(0, 2))]
        self.draw.shuffle(numbers)
        return numbers

    def test_home_groups(self):
        for dealing, pattern, homes in self.cases(150):
            expected = tuple(sorted({group for _, group in homes}))
            self.assertEqual(unchanged(self, dealing.home_groups, pattern), expected)
            self.assertEqual(dealing.home_groups(homes[0][0]), (homes[0][1],))

    def test_missed_row(self):
        for dealing, pattern, homes in self.cases(150):
            for group in ([], list(range(dealing.houses)), self.drawn_numbers(dealing.houses), self.drawn_numbers(dealing.houses)):
                missed = [row for row, houses in homes if not set(houses) & set(group)]
                expected = min(missed) if missed else None
                self.assertEqual(unchanged(self, dealing.missed_row, group, pattern), expected, (group, pattern))
                self.assertEqual(dealing.missed_row(tuple(group), pattern), expected)

    def test_the_empty_group_misses_every_row(self):
        for dealing, pattern, _ in self.cases(30):
            least = (pattern[0], tuple(0 if cell == -1 else cell for cell in pattern[1]))
            self.assertEqual(dealing.missed_row((), pattern), least)
            self.assertEqual(dealing.missed_row((9, -1, 5), pattern), least)
            self.assertEqual(dealing.lacking_home(()), (0, (0,) * dealing.tables[0]))
            self.assertIsNone(dealing.lacking_home(range(5)))

    def test_lacking_home(self):
        for dealing, _, _ in self.cases(60):
            group = self.drawn_numbers(dealing.houses)
            found = [dealing.missed_row(group, (table, (-1,) * width)) for table, width in enumerate(dealing.tables)]
            expected = min([row for row in found if row is not None], default=None)
            self.assertEqual(unchanged(self, dealing.lacking_home, group), expected)

    def test_closing_groups(self):
        for dealing, pattern, homes in self.cases(150):
            sets = {group for _, group in homes}
            holding = [group for many in range(6) for group in itertools.combinations(range(dealing.houses), many)
                       if all(set(group) & set(houses) for houses in sets)]
            least = [group for group in holding if not any(set(other) < set(group) for other in holding)]
            found = unchanged(self, dealing.closing_groups, pattern)
            self.assertEqual(found, tuple(sorted(least)))
            for group in found:
                self.assertIsNone(dealing.missed_row(group, pattern))
                for house in group:
                    self.assertIsNotNone(dealing.missed_row([other for other in group if other != house], pattern))

    def test_exceptions_in_one_column_alone(self):
        # 0 and 2 stand in exceptions of column 0, 1 in one of column 1: the least other worths are 4 and 0.
        dealing = Dealing((2,), 2, 2, [(0, 0, ((0, 1), (0, 1)))], [((0, (0, 1)), (1,)), ((0, (2, 1)), (1,))])
        self.assertEqual(dealing.missed_row((0,), (0, (-1, -1))), (0, (0, 1)))
        self.assertEqual(dealing.missed_row((0,), (0, (2, -1))), (0, (2, 1)))
        self.assertIsNone(dealing.missed_row((0,), (0, (-1, 0))))
        self.assertEqual(dealing.missed_row((1,), (0, (-1, 1))), (0, (1, 1)))
        self.assertEqual(dealing.missed_row((1,), (0, (2, -1))), (0, (2, 0)))
        self.assertEqual(dealing.home_groups((0, (-1, 1))), ((0,), (1,)))
        self.assertEqual(dealing.home_groups((0, (-1, 2))), ((0,),))
        self.assertEqual(dealing.closing_groups((0, (-1, -1))), ((0, 1),))
        self.assertEqual(dealing.closing_groups((0, (2, 1))), ((1,),))

    def test_an_exception_hides_the_least_worth(self):
        exceptions = [((0, (worth,)), (1,)) for worth in range(8)]
        dealing = Dealing((1,), 2, 3, [(0, 0, ((0, 1, 2),))], exceptions)
        self.assertEqual(dealing.missed_row((1,), (0, (-1,))), (0, (8,)))
        self.assertEqual(dealing.missed_row((0,), (0, (-1,))), (0, (0,)))
        self.assertEqual(dealing.home_groups((0, (-1,))), ((0,), (1,)))
        dealing = Dealing((1,), 3, 3, [(0, 0, ((2,),)), (1, 0, ((0, 1),)), (2, 0, ((0,),))], exceptions)
        self.assertEqual(dealing.missed_row((1,), (0, (-1,))), (0, (8,)))
        self.assertEqual(dealing.missed_row((0, 2), (0, (-1,))), (0, (0,)))
        self.assertEqual(dealing.closing_groups((0, (-1,))), ((0, 1),))
        self.assertEqual(dealing.home_groups((0, (-1,))), ((0,), (1,), (1, 2)))

    def test_closing_groups_without_one_size(self):
        accepts = [(0, 0, ((0,),)), (1, 0, ((0, 1),)), (2, 0, ((1,),)), (3, 0, ((0, 1),))]
        dealing = Dealing((1,), 4, 2, accepts)
        self.assertEqual(dealing.closing_groups((0, (-1,))), ((0, 2), (1,), (3,)))


if __name__ == "__main__":
    unittest.main()
