"""Promises 7.2 to 7.6: marks."""

import unittest

from soonestsaid.errors import NotOpen
from soonestsaid.marks import Marks, first_marks
from soonestsaid.meaning import basis_facts
from soonestsaid.questions import Question
from soonestsaid.views import View
from soonestsaid.wholes import Whole
from tests.helpers import content, drawing, drawn_pattern, drawn_row, drawn_rows, drawn_rules, refuses, shuffled
from tests.helpers import unchanged
from tests.worlds import FAR, World, one_house, small_view, world_of


def drawn_tables(draw):
    return tuple(draw.randint(1, 2) for _ in range(draw.randint(1, 2)))


def drawn_marks(draw, view, worths=(0, 1, 2), many=3):
    """Marks made by the calls that add assumptions, and the world that they should stand for."""
    marks = Marks(view, (1, 30))
    world = world_of(view, (1, 30))
    for _ in range(draw.randint(0, many)):
        kind = draw.choice(("there", "lacking", "empty"))
        row = drawn_row(draw, view.dealing.tables, (*worths, 40, FAR))
        pattern = drawn_pattern(draw, view.dealing.tables, worths)
        if kind == "there" and world.mark(row) == "open":
            marks, world = marks.with_there(row), world.beside(there=(row,))
        elif kind == "lacking" and world.mark(row) == "open":
            marks, world = marks.with_lacking(row), world.beside(lacking=(row,))
        elif kind == "empty" and world.empty(pattern) == "open":
            marks, world = marks.with_empty(pattern), world.beside(empties=(pattern,))
    return marks, world


class AttributesTest(unittest.TestCase):
    def test_attributes_in_the_given_order(self):
        view = View(one_house((1, 1)), [(0, Whole([(0, (4,))], [(1, (6,))]))])
        there, lacking = [(0, (9,)), (0, (1,)), (0, (4,))], [(1, (8,)), (1, (0,)), (1, (8,))]
        empties = [(1, (-1,)), (0, (77,)), (0, (3,))]
        marks = unchanged(self, Marks, view, [20, 2, 20], there, lacking, empties)
        self.assertIs(marks.view, view)
        self.assertEqual((marks.there, marks.lacking, marks.empties), (tuple(there), tuple(lacking), tuple(empties)))
        self.assertEqual(marks.rows, ((0, (1,)), (0, (4,)), (0, (9,))))
        self.assertEqual(marks.worths, (0, 1, 2, 3, 4, 6, 8, 9, 20, 77))
        before = content(marks)
        there.clear()
        lacking[0] = empties[0] = None
        self.assertEqual(content(marks), before)
        marks = Marks(view)
        self.assertEqual((marks.there, marks.lacking, marks.empties, marks.rows, marks.worths),
                         ((), (), (), ((0, (4,)),), (4, 6)))

    def test_grown_marks(self):
        draw = drawing(121)
        for _ in range(300):
            view = small_view(draw, drawn_tables(draw))
            marks, world = drawn_marks(draw, view, many=5)
            self.assertEqual((marks.there, marks.lacking, marks.empties), (world.there, world.lacking, world.empties))
            self.assertEqual((marks.rows, marks.worths), (world.rows, tuple(world.worths)))
            self.assertIs(marks.view, view)

    def test_first_marks(self):
        view = View(one_house((1, 2)), [(0, Whole([(0, (4,))], [(1, (6, -1))]))])
        question = Question((1, 2), [("answer", ("x", 3), [("row", 0, ("x",)), ("none", (1, (-1, 8)))])])
        marks = unchanged(self, first_marks, question, view, ("answer", (FAR, 3)))
        self.assertEqual((marks.there, marks.lacking, marks.empties, marks.rows), ((), (), (), ((0, (4,)),)))
        self.assertEqual(marks.worths, (3, 4, 6, 8, FAR))
        self.assertIs(marks.view, view)
        # They are no longer known by the view or the assumptions alone.
        self.assertEqual(marks.with_lacking((0, (5,))).with_there((0, (1,))).worths, (1, 3, 4, 5, 6, 8, FAR))
        draw = drawing(122)
        for _ in range(50):
            question = Question((1,), drawn_rules(draw, (1,), constants=(0, 12)))
            view = small_view(draw, (1,))
            self.assertEqual(first_marks(question, view, ("pair", (2, 90))).worths,
                             tuple(sorted({*view.worths, *question.constants, 2, 90})))


class MarkTest(unittest.TestCase):
    def test_against_many_rows(self):
        draw = drawing(123)
        found = {"there": 0, "lacking": 0, "open": 0, "yes": 0, "no": 0, "maybe": 0}
        for _ in range(400):
            view = small_view(draw, drawn_tables(draw))
            marks, world = drawn_marks(draw, view)
            for row in [*draw.choices(world.all_rows(), k=15), *world.there, *world.lacking]:
                expected = world.mark(row)
                self.assertEqual(unchanged(self, marks.mark, row), expected)
                self.assertIs(marks.lacks(row), expected == "lacking")
                found[expected] += 1
            patterns = [drawn_pattern(draw, view.dealing.tables, (0, 1, 2, 40)) for _ in range(4)]
            for pattern in [*patterns, *world.empties]:
                expected = world.empty(pattern)
                self.assertEqual(unchanged(self, marks.empty, pattern), expected)
                self.assertIs(marks.without(pattern), expected == "yes")
                found["maybe" if expected == "open" else expected] += 1
        self.assertGreater(min(found.values()), 100)

    def test_lets(self):
        draw = drawing(124)
        found = {True: 0, False: 0}
        for _ in range(600):
            view = small_view(draw, drawn_tables(draw), (0, 1))
            marks, world = drawn_marks(draw, view, (0, 1))
            rows = drawn_rows(draw, view.dealing.tables, (0, 1, 2), 3)
            if draw.random() < 0.8:
                rows = [*rows, *world.rows]
            expected = world.lets(rows)
            self.assertIs(unchanged(self, marks.lets, shuffled(draw, rows)), expected)
            found[expected] += 1
        self.assertGreater(min(found.values()), 100)

    def test_a_row_of_a_closed_pattern(self):
        # Seals, assumed rows and assumed patterns close a pattern together.
        view = View(one_house((2,)), [(0, Whole([], [(0, (-1, 0))]))])
        marks = Marks(view).with_empty((0, (3, -1)))
        self.assertEqual(marks.empty((0, (3, -1))), "yes")
        self.assertEqual(marks.empty((0, (-1, 0))), "yes")
        self.assertEqual(marks.empty((0, (-1, 1))), "open")
        self.assertEqual(marks.mark((0, (3, FAR))), "lacking")
        self.assertEqual(marks.mark((0, (4, FAR))), "open")
        marks = marks.with_there((0, (4, 1)))
        self.assertEqual(marks.empty((0, (-1, 1))), "no")
        self.assertEqual(marks.mark((0, (4, 1))), "there")
        # Lacking rows never close a pattern with a star.
        marks = Marks(View(one_house((1,))))
        for worth in range(5):
            marks = marks.with_lacking((0, (worth,)))
        self.assertEqual(marks.empty((0, (-1,))), "open")
        self.assertEqual(marks.empty((0, (3,))), "yes")

    def test_marks_are_a_basis(self):
        draw = drawing(125)
        told = 0
        for _ in range(200):
            tables = drawn_tables(draw)
            marks, world = drawn_marks(draw, small_view(draw, tables))
            question = Question(tables, drawn_rules(draw, tables))
            found = unchanged(self, basis_facts, question, marks)
            self.assertEqual(found, basis_facts(question, world))
            told += len(found)
        self.assertGreater(told, 50)


class WithTest(unittest.TestCase):
    def test_not_open(self):
        draw = drawing(126)
        found = {True: 0, False: 0}
        for _ in range(300):
            view = small_view(draw, drawn_tables(draw), (0, 1))
            marks, world = drawn_marks(draw, view, (0, 1))
            row = drawn_row(draw, view.dealing.tables, (0, 1))
            pattern = drawn_pattern(draw, view.dealing.tables, (0, 1))
            for call, thing, mark in ((marks.with_there, row, world.mark(row)),
                                      (marks.with_lacking, row, world.mark(row)),
                                      (marks.with_empty, pattern, world.empty(pattern))):
                if mark == "open":
                    self.assertIsInstance(unchanged(self, call, thing), Marks)
                else:
                    refuses(self, NotOpen, {"thing": thing}, call, thing)
                found[mark == "open"] += 1
        self.assertGreater(min(found.values()), 200)

    def test_one_more_assumption_at_the_end(self):
        marks = Marks(View(one_house((1,))), (50,), [(0, (9,))], [(0, (8,))], [(0, (7,))])
        found = unchanged(self, marks.with_there, (0, (1,)))
        self.assertEqual((found.there, found.lacking, found.empties), (((0, (9,)), (0, (1,))), marks.lacking, marks.empties))
        self.assertEqual(found.worths, (1, 7, 8, 9, 50))
        found = unchanged(self, marks.with_lacking, (0, (1,)))
        self.assertEqual((found.there, found.lacking, found.empties), (marks.there, ((0, (8,)), (0, (1,))), marks.empties))
        self.assertEqual(found.worths, (1, 7, 8, 9, 50))
        found = unchanged(self, marks.with_empty, (0, (1,)))
        self.assertEqual((found.there, found.lacking, found.empties), (marks.there, marks.lacking, ((0, (7,)), (0, (1,)))))
        self.assertEqual(found.worths, (1, 7, 8, 9, 50))

    def test_the_example(self):
        dealing = one_house((1,), 2)
        marks = Marks(View(dealing, [(0, Whole([(0, (4,))], [(0, (5,))]))]))
        self.assertEqual(marks.worths, (4, 5))
        self.assertEqual(marks.mark((0, (5,))), "lacking")
        self.assertEqual(marks.empty((0, (-1,))), "no")
        self.assertEqual(marks.with_there((0, (9,))).worths, (4, 5, 9))
        self.assertEqual(World(dealing, marks.view.wholes).mark((0, (5,))), "lacking")


if __name__ == "__main__":
    unittest.main()
