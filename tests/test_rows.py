"""Promises 1.1 to 1.3 and 1.5."""

import unittest

from soonestsaid.errors import BadRow, BadTables
from soonestsaid.rows import check_row, check_rows, check_tables, cut_rows, is_whole, renamed_rows, sorted_things
from soonestsaid.rows import worths_of
from tests.helpers import as_lists, drawing, drawn_rows, is_plain, refuses, shuffled, unchanged

FAR = 10 ** 60
NO_SEQUENCES = (None, 3, True, "ab", "", {}, {0: 1}, set(), {1}, 1.5)


class WholeTest(unittest.TestCase):
    def test_numbers(self):
        for number in (0, 1, -1, FAR, -FAR):
            self.assertIs(is_whole(number), True)

    def test_other_things(self):
        for thing in (True, False, None, "1", "", 1.0, 0.5, (), (1,), [1], {}, b"1"):
            self.assertIs(is_whole(thing), False, thing)
            self.assertIs(is_whole(thing, 0, 9), False, thing)
            self.assertIs(is_whole(thing, low=0), False, thing)
            self.assertIs(is_whole(thing, high=9), False, thing)

    def test_bounds(self):
        for low in (None, -2, 0, 3):
            for high in (None, -2, 0, 3):
                for number in range(-4, 6):
                    fits = (low is None or low <= number) and (high is None or number <= high)
                    self.assertIs(is_whole(number, low, high), fits, (number, low, high))
                    self.assertIs(is_whole(number, low=low, high=high), fits)

    def test_far_bounds(self):
        self.assertIs(is_whole(FAR, FAR, FAR), True)
        self.assertIs(is_whole(FAR, FAR + 1), False)
        self.assertIs(is_whole(FAR, None, FAR - 1), False)


class TablesTest(unittest.TestCase):
    def test_right_ones(self):
        for tables in ((1,), (3,), (2, 1), (1, 2, 3), (3, 3, 3)):
            self.assertEqual(check_tables(tables), tables)
            self.assertEqual(unchanged(self, check_tables, list(tables)), tables)
            self.assertIsInstance(check_tables(list(tables)), tuple)

    def test_many(self):
        for tables in (*NO_SEQUENCES, (), [], (1, 1, 1, 1), [1] * 5, (0, 0, 0, 0), range(2)):
            refuses(self, BadTables, {"what": "many"}, check_tables, tables)

    def test_width(self):
        for width in (0, 4, -1, FAR, True, False, None, "1", 1.0, (1,), [1]):
            for tables in ((width,), [1, width], (width, 1), (1, 2, width)):
                refuses(self, BadTables, {"what": "width"}, check_tables, tables)


class RowTest(unittest.TestCase):
    def test_right_ones(self):
        for row in ((0, (1,)), (0, (0,)), (1, (0, FAR)), (2, (5, 5, 5)), (2, (3, 0, FAR - 1))):
            self.assertEqual(check_row((1, 2, 3), row), row)
            self.assertEqual(unchanged(self, check_row, (1, 2, 3), as_lists(row)), row)
            self.assertTrue(is_plain(check_row((1, 2, 3), as_lists(row))))

    def faults(self, what, *rows):
        for row in rows:
            refuses(self, BadRow, {"what": what}, check_row, (1, 2), row)
            refuses(self, BadRow, {"what": what}, check_rows, (1, 2), (row,))

    def test_row(self):
        self.faults("row", *NO_SEQUENCES, (), (0,), [0], (0, (1,), 2), [0, [1], [2]], (7, -1, None))

    def test_table(self):
        self.faults("table", (2, (1,)), (-1, (1,)), [-2, [1]], (True, (1, 1)), (False, (1,)), (None, (1,)),
                    ("0", (1,)), (0.0, (1,)), ((0,), (1,)), (FAR, (1,)), (2, "no"), (None, None))

    def test_width(self):
        self.faults("width", *[(0, cells) for cells in NO_SEQUENCES], (0, ()), (0, []), (0, (1, 2)), (1, (1,)),
                    (1, [1, 2, 3]), (0, (-1, "x")), (0, "7"), (1, "77"), (1, {1: 1, 2: 2}), (1, {1, 2}))

    def test_worth(self):
        self.faults("worth", *[(0, (worth,)) for worth in (-1, -FAR, True, False, None, "1", "", 1.0, (1,), [1])],
                    (1, (0, -1)), (1, (-1, 0)), (1, [3, True]), (1, (None, None)))

    def test_tables_bound_the_numbers(self):
        self.assertEqual(check_row((1,), (0, (1,))), (0, (1,)))
        refuses(self, BadRow, {"what": "table"}, check_row, (1,), (1, (1,)))
        self.assertEqual(check_row((1, 1, 1), (2, (1,))), (2, (1,)))


class RowsTest(unittest.TestCase):
    def test_any_order_and_doubles(self):
        draw = drawing(1)
        for _ in range(200):
            rows = drawn_rows(draw, (2, 1, 3), (0, 1, 2, FAR), 6)
            given = shuffled(draw, rows)
            for passed in (given, tuple(given), as_lists(given), [tuple(row) for row in as_lists(given)]):
                found = unchanged(self, check_rows, (2, 1, 3), passed)
                self.assertEqual(found, rows)
                self.assertTrue(is_plain(found))

    def test_empty(self):
        self.assertEqual(check_rows((1,), []), ())
        self.assertEqual(check_rows((1,), ()), ())

    def test_no_sequence(self):
        for rows in NO_SEQUENCES:
            refuses(self, BadRow, {"what": "row"}, check_rows, (1,), rows)

    def test_the_first_at_fault(self):
        faults = (("row", (0,)), ("table", (5, (1,))), ("width", (0, (1, 1))), ("worth", (0, (-1,))))
        for what, row in faults:
            for _, other in faults:
                refuses(self, BadRow, {"what": what}, check_rows, (1, 2), [(0, (9,)), (0, (1,)), row, other])


class ThingsTest(unittest.TestCase):
    def test_sorted_things(self):
        for things, found in (
                ((), ()), ([], ()), ((3, 1, 2, 1, 3), (1, 2, 3)), ([FAR, -1, FAR], (-1, FAR)),
                (["b", "a", "ab", "b"], ("a", "ab", "b")), (["", ""], ("",)),
                ([(1, (2, 3)), (0, (9,)), (1, (2,)), (1, (2, 3))], ((0, (9,)), (1, (2,)), (1, (2, 3)))),
                ([("b", (1,)), ("a", ()), ("b", ())], (("a", ()), ("b", ()), ("b", (1,))))):
            self.assertEqual(unchanged(self, sorted_things, things), found)
            self.assertIsInstance(sorted_things(things), tuple)
            self.assertEqual(sorted_things(tuple(reversed(things))), found)

    def test_worths_of(self):
        self.assertEqual(worths_of(()), ())
        self.assertEqual(worths_of([(0, (-1, -1))]), ())
        rows = [(2, (7, 0, FAR)), (0, (3,)), (1, (-1, 7)), (1, (-1, -1)), (0, (3,))]
        self.assertEqual(unchanged(self, worths_of, rows), (0, 3, 7, FAR))
        self.assertEqual(worths_of(tuple(rows)), (0, 3, 7, FAR))

    def test_cut_rows(self):
        rows = [(1, (2, 1)), (0, (1,)), (0, (3,)), (1, (1, 3)), (0, (1,)), (1, (1, 1))]
        self.assertEqual(unchanged(self, cut_rows, rows, [2, 1, 2]), ((1, (2, 1)), (0, (1,)), (0, (1,)), (1, (1, 1))))
        self.assertEqual(cut_rows(rows, (3,)), ((0, (3,)),))
        self.assertEqual(cut_rows(rows, ()), ())
        self.assertEqual(cut_rows((), (1,)), ())
        self.assertEqual(cut_rows(tuple(rows), (1, 2, 3)), tuple(rows))

    def test_renamed_rows(self):
        rows = [(1, (1, 2)), (0, (5,)), (0, (1,)), (1, (2, 1))]
        self.assertEqual(unchanged(self, renamed_rows, rows, {1: 2, 2: 1}),
                         ((0, (2,)), (0, (5,)), (1, (1, 2)), (1, (2, 1))))
        self.assertEqual(renamed_rows(rows, {1: 5, 2: FAR}), ((0, (5,)), (1, (5, FAR)), (1, (FAR, 5))))
        self.assertEqual(renamed_rows(rows, {}), tuple(sorted(rows)))
        self.assertEqual(renamed_rows([(0, (1,)), (0, (2,)), (0, (3,))], {1: 2, 2: 3, 3: 4}),
                         ((0, (2,)), (0, (3,)), (0, (4,))))
        self.assertEqual(renamed_rows((), {1: 2}), ())

    def test_renamed_rows_when_drawn(self):
        draw = drawing(2)
        for _ in range(200):
            rows = shuffled(draw, drawn_rows(draw, (2, 1), range(5), 6))
            names = {worth: draw.randrange(7) for worth in range(5) if draw.random() < 0.6}
            expected = sorted({(table, tuple(names[w] if w in names else w for w in worths)) for table, worths in rows})
            self.assertEqual(unchanged(self, renamed_rows, rows, names), tuple(expected))


if __name__ == "__main__":
    unittest.main()
