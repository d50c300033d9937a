"""Promises 1.4 and 1.6 to 1.9."""

import itertools
import unittest

from soonestsaid.errors import BadPattern
from soonestsaid.patterns import STAR, all_rows, check_pattern, check_patterns, covers, meeting, new_worth, rows_of
from soonestsaid.patterns import typical_rows
from soonestsaid.rows import worths_of
from tests.helpers import as_lists, drawing, drawn_pattern, drawn_row, is_plain, refuses, shuffled, unchanged

FAR = 10 ** 60
NO_SEQUENCES = (None, 3, True, "ab", "", {}, {0: 1}, set(), {1}, 1.5)


def patterns_over(table, width, worths):
    return [(table, cells) for cells in itertools.product([STAR, *worths], repeat=width)]


def rows_over(tables, worths):
    return [(table, cells) for table, width in enumerate(tables) for cells in itertools.product(worths, repeat=width)]


def has_row(pattern, row):
    return pattern[0] == row[0] and all(cell in (-1, worth) for cell, worth in zip(pattern[1], row[1]))


class CheckTest(unittest.TestCase):
    def test_star(self):
        self.assertEqual(STAR, -1)

    def test_right_ones(self):
        for pattern in ((0, (-1,)), (0, (0,)), (1, (-1, FAR)), (2, (5, -1, 5)), (2, (-1, -1, -1))):
            self.assertEqual(check_pattern((1, 2, 3), pattern), pattern)
            found = unchanged(self, check_pattern, (1, 2, 3), as_lists(pattern))
            self.assertEqual(found, pattern)
            self.assertTrue(is_plain(found))

    def faults(self, what, *patterns):
        for pattern in patterns:
            refuses(self, BadPattern, {"what": what}, check_pattern, (1, 2), pattern)
            refuses(self, BadPattern, {"what": what}, check_patterns, (1, 2), [pattern])

    def test_pattern(self):
        self.faults("pattern", *NO_SEQUENCES, (), (0,), [0], (0, (1,), 2), (9, None, None))

    def test_table(self):
        self.faults("table", (2, (1,)), (-1, (-1,)), (True, (1, 1)), (False, (1,)), (None, (1,)), ("0", (1,)), (9, 9))

    def test_width(self):
        self.faults("width", *[(0, cells) for cells in NO_SEQUENCES], (0, ()), (0, (-1, -1)), (1, (-1,)), (0, (-2, "x")),
                    (1, (1, 2, 3)), (1, "77"))

    def test_cell(self):
        self.faults("cell", *[(0, (cell,)) for cell in (-2, -FAR, True, False, None, "*", "", 1.0, (1,), [1])],
                    (1, (-1, -2)), (1, (-2, -1)), (1, [0, True]))

    def test_sequences(self):
        draw = drawing(3)
        for _ in range(200):
            patterns = {drawn_pattern(draw, (2, 1, 3), (0, 1, FAR)) for _ in range(draw.randint(0, 6))}
            given = shuffled(draw, sorted(patterns))
            for passed in (given, tuple(given), as_lists(given)):
                found = unchanged(self, check_patterns, (2, 1, 3), passed)
                self.assertEqual(found, tuple(sorted(patterns)))
                self.assertTrue(is_plain(found))

    def test_no_sequence(self):
        for patterns in NO_SEQUENCES:
            refuses(self, BadPattern, {"what": "pattern"}, check_patterns, (1,), patterns)

    def test_the_first_at_fault(self):
        faults = (("pattern", (0,)), ("table", (5, (1,))), ("width", (0, (1, 1))), ("cell", (0, (-2,))))
        for what, pattern in faults:
            for _, other in faults:
                refuses(self, BadPattern, {"what": what}, check_patterns, (1, 2), [(0, (-1,)), pattern, other])


class CoversTest(unittest.TestCase):
    def test_covers_against_all_rows(self):
        for width in (1, 2, 3):
            worths = (0, 1, FAR) if width < 3 else (0, 1)
            # 5 stands for the worths that stand in no pattern.
            rows = rows_over((width,), (*worths, 5))
            patterns = patterns_over(0, width, worths)
            for one in patterns:
                held = {row for row in rows if has_row(one, row)}
                for row in rows:
                    self.assertIs(covers(one, row), row in held)
                for other in patterns:
                    inner = {row for row in rows if has_row(other, row)}
                    self.assertIs(covers(one, other), inner <= held, (one, other))

    def test_meeting_against_all_rows(self):
        for width in (1, 2, 3):
            worths = (0, 1, FAR) if width < 3 else (0, 1)
            rows = rows_over((width,), (*worths, 5))
            patterns = patterns_over(0, width, worths)
            for one in patterns:
                for other in patterns:
                    both = [row for row in rows if has_row(one, row) and has_row(other, row)]
                    met = meeting(one, other)
                    self.assertEqual(met, meeting(other, one))
                    self.assertEqual(met == one, covers(other, one))
                    if met is None:
                        self.assertEqual(both, [])
                    else:
                        self.assertTrue(is_plain(met))
                        self.assertEqual(both, [row for row in rows if has_row(met, row)])

    def test_other_tables(self):
        self.assertIs(covers((0, (-1,)), (1, (-1,))), False)
        self.assertIs(covers((0, (-1,)), (1, (3,))), False)
        self.assertIsNone(meeting((0, (-1,)), (1, (-1,))))
        self.assertIsNone(meeting((1, (3,)), (0, (3,))))
        self.assertEqual(meeting((1, (-1,)), (1, (3,))), (1, (3,)))


class RowsOfTest(unittest.TestCase):
    def test_rows_of_against_all_rows(self):
        draw = drawing(4)
        for _ in range(300):
            tables = [draw.randint(1, 3) for _ in range(draw.randint(1, 3))]
            pattern = drawn_pattern(draw, tables, (0, 1, 7, FAR))
            worths = draw.sample((0, 1, 4, 7, FAR), draw.randint(0, 3))
            expected = [row for row in rows_over(tables, sorted({0, 1, 4, 7, FAR})) if has_row(pattern, row) and all(
                cell != -1 or worth in worths for cell, worth in zip(pattern[1], row[1]))]
            given = shuffled(draw, worths)
            found = unchanged(self, rows_of, pattern, given)
            self.assertEqual(found, tuple(expected))
            self.assertTrue(is_plain(found))
            self.assertEqual(rows_of(pattern, tuple(given)), found)

    def test_a_row_is_its_own(self):
        self.assertEqual(rows_of((1, (3, 4)), ()), ((1, (3, 4)),))
        self.assertEqual(rows_of((1, (3, 4)), (9, 9)), ((1, (3, 4)),))
        self.assertEqual(rows_of((1, (3, -1)), ()), ())

    def test_all_rows(self):
        for tables in ((1,), (2,), (3,), (1, 2), (3, 1, 2)):
            for worths in ((), (4,), (2, 0), (FAR, 0, 3, 0)):
                expected = rows_over(tables, sorted(set(worths)))
                found = unchanged(self, all_rows, tables, list(worths))
                self.assertEqual(found, tuple(expected))
                self.assertTrue(is_plain(found))


class NewWorthTest(unittest.TestCase):
    def test_nothing_known(self):
        for modulus in range(1, 8):
            for rest in range(modulus):
                self.assertEqual(new_worth((), rest, modulus), rest)
                self.assertEqual(new_worth([], rest, modulus), rest)

    def test_least_above(self):
        draw = drawing(5)
        for _ in range(500):
            known = [draw.randrange(20) for _ in range(draw.randint(1, 5))]
            modulus = draw.randint(1, 6)
            rest = draw.randrange(modulus)
            expected = next(worth for worth in range(100) if worth > max(known) and worth % modulus == rest)
            self.assertEqual(unchanged(self, new_worth, known, rest, modulus), expected)
            self.assertEqual(new_worth(tuple(known), rest, modulus), expected)

    def test_zero_known(self):
        self.assertEqual(new_worth((0,), 0, 1), 1)
        self.assertEqual(new_worth((0,), 0, 2), 2)
        self.assertEqual(new_worth([0], 1, 2), 1)

    def test_far(self):
        self.assertEqual(new_worth((3, FAR, 5), 0, 1), FAR + 1)
        self.assertEqual(new_worth((FAR,), FAR % 3, 3), FAR + 3)
        self.assertEqual(new_worth((), 7, FAR), 7)
        self.assertEqual(new_worth((8,), 7, FAR), FAR + 7)


def alike(one, other, known, modulus):
    """Whether two rows are of one kind beside the known worths."""
    if one[0] != other[0]:
        return False
    couples = list(zip(one[1], other[1]))
    for left, right in couples:
        if (left in known or right in known) and left != right:
            return False
        if left % modulus != right % modulus:
            return False
    return all((a == c) == (b == d) for a, b in couples for c, d in couples)


class TypicalTest(unittest.TestCase):
    def test_examples(self):
        self.assertEqual(typical_rows((0, (-1, -1)), (0,), 1),
                         ((0, (0, 0)), (0, (0, 1)), (0, (1, 0)), (0, (1, 1)), (0, (1, 2))))
        self.assertEqual(typical_rows((0, (-1,)), (4,), 2), ((0, (4,)), (0, (5,)), (0, (6,))))

    def test_a_row(self):
        self.assertEqual(typical_rows((1, (3, 9)), (4,), 2), ((1, (3, 9)),))
        self.assertEqual(typical_rows((1, (3, 9)), (), 3), ((1, (3, 9)),))

    def test_own_cells_are_known(self):
        self.assertEqual(typical_rows((0, (7, -1)), (), 1), ((0, (7, 7)), (0, (7, 8))))
        self.assertEqual(typical_rows((0, (-1, 7)), (3,), 2), ((0, (3, 7)), (0, (7, 7)), (0, (8, 7)), (0, (9, 7))))

    def test_without_gap_from_the_left(self):
        self.assertEqual(typical_rows((0, (-1, -1)), (), 2),
                         ((0, (0, 0)), (0, (0, 1)), (0, (0, 2)), (0, (1, 0)), (0, (1, 1)), (0, (1, 3))))
        self.assertEqual(
            [cells for _, cells in typical_rows((0, (-1, -1, -1)), (), 1)],
            [(0, 0, 0), (0, 0, 1), (0, 1, 0), (0, 1, 1), (0, 1, 2)])

    def test_each_row_has_exactly_one_of_its_kind(self):
        draw = drawing(6)
        for _ in range(120):
            tables = [draw.randint(1, 3)]
            pattern = drawn_pattern(draw, tables, (0, 2, 5))
            worths = draw.sample(range(6), draw.randint(0, 3))
            modulus = draw.randint(1, 3)
            given = shuffled(draw, worths)
            found = unchanged(self, typical_rows, pattern, given, modulus)
            known = {*worths, *worths_of([pattern])}
            self.assertEqual(found, tuple(sorted(set(found))))
            self.assertTrue(is_plain(found))
            for row in found:
                self.assertTrue(has_row(pattern, row))
            for _ in range(20):
                row = drawn_row(draw, tables, [*range(14), FAR, FAR + 1])
                row = (row[0], tuple(worth if cell == -1 else cell for cell, worth in zip(pattern[1], row[1])))
                same = [other for other in found if alike(row, other, known, modulus)]
                self.assertEqual(len(same), 1, (pattern, worths, modulus, row))

    def test_the_new_worths_are_the_least_ones(self):
        draw = drawing(7)
        for _ in range(60):
            pattern = drawn_pattern(draw, (3,), (0, 2, 5))
            worths = draw.sample(range(6), draw.randint(0, 3))
            modulus = draw.randint(1, 3)
            known = sorted({*worths, *worths_of([pattern])})
            for _, cells in typical_rows(pattern, worths, modulus):
                for rest in range(modulus):
                    news = [worth for worth in cells if worth not in known and worth % modulus == rest]
                    least = new_worth(known, rest, modulus)
                    self.assertEqual(list(dict.fromkeys(news)), [least + k * modulus for k in range(len(set(news)))])

    def test_far_worths(self):
        self.assertEqual(typical_rows((0, (-1,)), (FAR,), 1), ((0, (FAR,)), (0, (FAR + 1,))))


if __name__ == "__main__":
    unittest.main()
