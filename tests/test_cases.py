"""Promises 7.9 and 7.10, and 7.1 (c): the branches of marks."""

import itertools
import unittest

from soonestsaid.cases import branches_of, breaking_rows
from soonestsaid.errors import NotOpen
from soonestsaid.marks import Marks
from soonestsaid.views import View
from soonestsaid.wholes import Whole
from tests.helpers import content, drawing, drawn_pattern, drawn_row, drawn_rows, refuses, unchanged
from tests.judging import own_breaking_rows
from tests.test_marks import drawn_marks, drawn_tables
from tests.worlds import FAR, matches, one_house, renamed, small_view


def kind(row, known, modulus):
    """What a renaming of unknown worths, each to one of the same rest, leaves of a row."""
    return row[0], tuple(worth if worth in known else (worth % modulus, row[1].index(worth)) for worth in row[1])


def renamings(rows, known, modulus, into):
    """Ways to give the unknown worths of rows unlike ones of the same rests out of `into`, or what they have."""
    unknown = sorted({worth for _, worths in rows for worth in worths} - set(known))
    for choice in itertools.permutations(into, len(unknown)):
        if all(worth % modulus == other % modulus for worth, other in zip(unknown, choice)):
            yield dict(zip(unknown, choice))


class BreakingRowsTest(unittest.TestCase):
    def test_against_typical_rows(self):
        draw = drawing(141)
        many = none = 0
        for _ in range(400):
            view = small_view(draw, drawn_tables(draw), deeds=8)
            marks, world = drawn_marks(draw, view)
            pattern = drawn_pattern(draw, view.dealing.tables, (0, 1, 2, 60))
            known = {*world.worths, *(cell for cell in pattern[1] if cell >= 0)}
            world.worths = sorted(known)
            expected = own_breaking_rows(world, pattern)
            found = unchanged(self, breaking_rows, marks, pattern)
            self.assertEqual(found, expected)
            fillers = world.fillers(worths=world.worths)
            self.assertIs(found == (), all(world.mark(row) != "open" for row in world.rows_of(pattern, fillers)))
            many += len(found) > 1
            none += found == ()
        self.assertGreater(min(many, none), 60)

    def test_one_for_each_kind_of_open_rows(self):
        draw = drawing(142)
        for _ in range(100):
            view = small_view(draw, (2,), (0, 1), 5, most_modulus=2)
            marks, world = drawn_marks(draw, view, (0, 1), 2)
            pattern = drawn_pattern(draw, (2,), (0, 1))
            # The pattern's own worths are known, too.
            known, modulus = sorted({*world.worths, *(cell for cell in pattern[1] if cell >= 0)}), view.dealing.modulus
            found = [kind(row, known, modulus) for row in breaking_rows(marks, pattern)]
            self.assertEqual(len(found), len(set(found)))
            least = max([*known, 7])
            fillers = [*known, *range(least + 1, least + 1 + 2 * modulus), 10 ** 60, 10 ** 60 + 1]
            rows = [row for row in world.rows_of(pattern, fillers) if world.mark(row) == "open"]
            self.assertEqual({kind(row, known, modulus) for row in rows}, set(found))

    def test_three_stars(self):
        draw = drawing(143)
        for _ in range(20):
            view = small_view(draw, (3,), (0, 1), 4, most_modulus=2, most_exceptions=1)
            marks, world = drawn_marks(draw, view, (0, 1), 1)
            self.assertEqual(breaking_rows(marks, (0, (-1, -1, -1))), own_breaking_rows(world, (0, (-1, -1, -1))))

    def test_written_out(self):
        marks = Marks(View(one_house((1,), 2), [(0, Whole([(0, (4,))], [(0, (5,))]))]))
        self.assertEqual(breaking_rows(marks, (0, (-1,))), ((0, (6,)), (0, (7,))))
        self.assertEqual(breaking_rows(marks, (0, (4,))), ())
        self.assertEqual(breaking_rows(marks, (0, (5,))), ())
        # A worth of the pattern alone is known, too.
        self.assertEqual(breaking_rows(marks, (0, (9,))), ((0, (9,)),))
        marks = Marks(View(one_house((2,))), (3,))
        self.assertEqual(breaking_rows(marks, (0, (8, -1))), ((0, (8, 3)), (0, (8, 8)), (0, (8, 9))))


class BranchesTest(unittest.TestCase):
    def branches(self, marks, assumption):
        before = content(marks)
        found = list(branches_of(marks, assumption))
        self.assertEqual(content(marks), before)
        return found

    def test_the_order_of_branches(self):
        draw = drawing(144)
        seen = {"row": 0, "none": 0}
        for _ in range(300):
            view = small_view(draw, drawn_tables(draw))
            marks, world = drawn_marks(draw, view)
            row = drawn_row(draw, view.dealing.tables, (0, 1, 2))
            pattern = drawn_pattern(draw, view.dealing.tables, (0, 1, 2))
            if world.mark(row) == "open":
                expected = [marks.with_lacking(row), marks.with_there(row)]
                self.assertEqual(content(self.branches(marks, ("row", row))), content(expected))
                seen["row"] += 1
            if world.empty(pattern) == "open":
                expected = [marks.with_empty(pattern)]
                expected += [marks.with_there(row) for row in breaking_rows(marks, pattern)]
                self.assertEqual(content(self.branches(marks, ("none", pattern))), content(expected))
                seen["none"] += 1
        self.assertGreater(min(seen.values()), 100)

    def test_not_open_at_the_first_step(self):
        marks = Marks(View(one_house((1,)), [(0, Whole([(0, (4,))], [(0, (5,))]))]))
        for assumption in (("row", (0, (4,))), ("row", (0, (5,))), ("none", (0, (4,))), ("none", (0, (5,))),
                           ("none", (0, (-1,)))):
            steps = branches_of(marks, assumption)
            refuses(self, NotOpen, {"thing": assumption[1]}, next, steps)
        self.assertEqual(next(branches_of(marks, ("row", (0, (6,))))).lacking, ((0, (6,)),))

    def test_branches_let_what_the_marks_let(self):
        draw = drawing(145)
        tried = 0
        for _ in range(400):
            tables = draw.choice(((1,), (2,), (1, 1)))
            view = small_view(draw, tables, (0, 1), 4, most_modulus=2, most_exceptions=1)
            marks, world = drawn_marks(draw, view, (0, 1), 2)
            pattern = drawn_pattern(draw, tables, (0, 1))
            row = drawn_row(draw, tables, (0, 1))
            assumption = draw.choice((("row", row), ("none", pattern)))
            if (world.mark(row) if assumption[0] == "row" else world.empty(pattern)) != "open":
                continue
            known = set(world.worths) | {cell for cell in assumption[1][1] if cell >= 0}
            branches = self.branches(marks, assumption)
            far = [FAR + at for at in range(6)]
            given = {*world.rows, *drawn_rows(draw, tables, (0, 1, 2, far[1], far[2]), 2)}
            given = tuple(sorted(row for row in given if not world.lacks(row)))
            fresh = [worth for branch in branches for worth in branch.worths if worth not in known]
            into = sorted({*fresh, 100, 101, 102, 103})
            self.assertTrue(any(
                branch.lets(renamed(given, names)) for names in renamings(given, known, view.dealing.modulus, into)
                for branch in branches), (given, assumption))
            tried += 1
            # And back: what a branch lets be is let by the marks.
            for branch in branches:
                rows = [*branch.rows, *drawn_rows(draw, tables, (0, 1, 2, FAR), 1)]
                if branch.lets(rows):
                    self.assertTrue(marks.lets(rows))
                    self.assertNotEqual([word for word, thing in (assumption,) if word == "none" and branch.empties
                                         and branch.empties[-1] == thing
                                         and any(matches(thing, row) for row in rows)], ["none"])
        self.assertGreater(tried, 150)


if __name__ == "__main__":
    unittest.main()
