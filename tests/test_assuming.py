"""Promises 7.7 and 7.8: the first way to tell a fact."""

import unittest

from soonestsaid.assuming import Way, first_way
from soonestsaid.fillings import ground
from soonestsaid.marks import Marks, first_marks
from soonestsaid.meaning import basis_derivation, basis_fault, derivation_fault, told_facts
from soonestsaid.questions import Question
from soonestsaid.views import View
from soonestsaid.wholes import Whole
from tests.helpers import drawing, drawn_row, drawn_rules, is_plain, unchanged
from tests.test_marks import drawn_marks, drawn_tables
from tests.worlds import one_house, small_view


def open_conditions(question, world, derivation):
    found = []
    for number, filling in derivation:
        made = ground(question, number, filling)
        found.extend(("row", row) for row in made.nots if world.mark(row) == "open")
        found.extend(("none", pattern) for pattern in made.nones if world.empty(pattern) == "open")
    return tuple(dict.fromkeys(found))


class FirstWayTest(unittest.TestCase):
    def test_each_kind_of_way(self):
        draw = drawing(131)
        found = {"none": 0, "bare": 0, "assuming": 0}
        words = ("row", "row", "told", "not", "not", "none")
        for _ in range(600):
            tables = drawn_tables(draw)
            question = Question(tables, drawn_rules(draw, tables, words))
            marks, world = drawn_marks(draw, small_view(draw, tables, deeds=12), many=5)
            told = told_facts(question, marks.rows)
            for fact in (*told[:6], ("answer", ()), ("pair", (0,)), ("nobody", (1,)), ("far", (0, 1, 2))):
                way = unchanged(self, first_way, question, marks, fact)
                bare = basis_derivation(question, world, fact) is not None
                if fact not in told:
                    self.assertIsNone(way)
                    self.assertTrue(marks.lets(marks.rows))
                    self.assertFalse(bare)
                    found["none"] += 1
                    continue
                self.assertTrue(is_plain((way.derivation, way.assumed)))
                self.assertEqual(way.assumed, open_conditions(question, world, way.derivation))
                self.assertIs(way.assumed == (), bare)
                self.assertIsNone(derivation_fault(question, marks.rows, fact, way.derivation))
                if bare:
                    self.assertIsNone(basis_fault(question, marks, fact, way.derivation))
                found["bare" if bare else "assuming"] += 1
        self.assertGreater(min(found.values()), 20)

    def test_assumptions_in_order_each_once(self):
        question = Question((1, 1), [
            ("answer", (), [("told", "t", ()), ("none", (1, (-1,))), ("not", 1, (5,)), ("none", (1, (3,))),
                            ("not", 1, (4,))]),
            ("t", (), [("none", (0, (7,))), ("not", 1, (5,)), ("none", (1, (3,)))])])
        marks = first_marks(question, View(one_house((1, 1))), ("answer", ()))
        way = first_way(question, marks, ("answer", ()))
        self.assertEqual(way.derivation, ((1, ()), (0, ())))
        self.assertEqual(way.assumed, (("row", (1, (5,))), ("none", (0, (7,))), ("none", (1, (3,))), ("row", (1, (4,))),
                                       ("none", (1, (-1,)))))
        marks = marks.with_lacking((1, (5,))).with_empty((1, (3,)))
        self.assertEqual(first_way(question, marks, ("answer", ())).assumed,
                         (("none", (0, (7,))), ("row", (1, (4,))), ("none", (1, (-1,)))))
        # A row that is lacking under an assumed pattern is no longer open.
        marks = marks.with_empty((1, (-1,)))
        self.assertEqual(first_way(question, marks, ("answer", ())).assumed, (("none", (0, (7,))),))
        self.assertIsNone(first_way(question, marks.with_there((0, (7,))), ("answer", ())))

    def test_no_assumption_if_a_derivation_does_without(self):
        # The longer way needs nothing, the shorter ones do.
        rules = [("answer", ("x",), [("row", 0, ("x",)), ("not", 1, ("x",))]),
                 ("answer", ("x",), [("told", "t", ("x",)), ("told", "t", ("y",)), ("unlike", "x", "y")]),
                 ("t", ("x",), [("row", 0, ("x",)), ("none", (1, (8,)))])]
        view = View(one_house((1, 1)), [(0, Whole([(0, (1,)), (0, (2,))], [(1, (8,))]))])
        for order in (rules, rules[::-1]):
            question = Question((1, 1), order)
            way = first_way(question, first_marks(question, view, ("answer", (1,))), ("answer", (1,)))
            self.assertEqual(way.assumed, ())
            self.assertEqual(len(way.derivation), 3)

    def test_rules_that_lean_on_one_another(self):
        rules = [("answer", ("x",), [("told", "a", ("x",))]), ("a", ("x",), [("told", "b", ("x",))]),
                 ("b", ("x",), [("told", "a", ("x",))]), ("b", ("x",), [("row", 0, ("x",)), ("not", 0, (9,))]),
                 ("b", ("x",), [("told", "answer", ("x",))])]
        question = Question((1,), rules)
        view = View(one_house((1,)), [(0, Whole([(0, (1,))]))])
        marks = first_marks(question, view, ("answer", (1,)))
        way = first_way(question, marks, ("answer", (1,)))
        self.assertEqual(way, Way(((3, (1,)), (1, (1,)), (0, (1,))), (("row", (0, (9,))),)))
        self.assertIsNone(first_way(question, marks, ("answer", (2,))))
        self.assertIsNone(first_way(question, marks.with_there((0, (9,))), ("answer", (1,))))

    def test_equal(self):
        way = Way(((0, (1,)),), (("row", (0, (9,))),))
        self.assertEqual((way.derivation, way.assumed), (((0, (1,)),), (("row", (0, (9,))),)))
        self.assertEqual(way, Way(((0, (1,)),), (("row", (0, (9,))),)))
        for unlike in (Way((), way.assumed), Way(way.derivation, ()), (way.derivation, way.assumed), None):
            self.assertFalse(way == unlike)

    def test_marks_that_the_caller_made(self):
        draw = drawing(132)
        question = Question((1, 1), [("answer", ("x",), [("row", 0, ("x",)), ("not", 1, ("x",)), ("none", (1, (7,)))])])
        for _ in range(50):
            rows = [drawn_row(draw, (1, 1), (1, 2)) for _ in range(2)]
            marks = Marks(View(one_house((1, 1))), there=rows, empties=[(1, (7,))])
            way = first_way(question, marks, ("answer", (1,)))
            expected = (0, (1,)) in rows and (1, (1,)) not in rows
            self.assertEqual(way, Way(((0, (1,)),), (("row", (1, (1,))),)) if expected else None)


if __name__ == "__main__":
    unittest.main()
