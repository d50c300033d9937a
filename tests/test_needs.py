"""Promises 10.1 to 10.6: what a question needs."""

import itertools
import time
import unittest

from soonestsaid.errors import NotFlat
from soonestsaid.fillings import frozen_fillings, ground
from soonestsaid.meaning import answers_of
from soonestsaid.needs import Couple, Need, body_couple, couple_fault, find_need
from soonestsaid.patterns import all_rows
from soonestsaid.questions import Question
from tests.helpers import as_lists, drawing, drawn_rows, is_plain, refuses, unchanged
from tests.judging import shaky_rules
from tests.worlds import FAR, matches, worths_in

SEVEN = ("answer", (7,))
ALONE = ("answer", ("x",), (("row", 0, ("x",)), ("not", 1, ("x",))))
BESIDE = ("answer", ("x",), (("row", 0, ("x",)), ("row", 1, ("x",))))
NOBODY = ("answer", ("x",), (("row", 0, ("x",)), ("none", (1, (-1,)))))
DEEP = Question((1, 1), [ALONE, ("answer", ("x",), (("told", "t", ("x",)),)), ("t", ("x",), (("row", 0, ("x",)),))])
EXAMPLE = Couple(((0, (0,)),), ((0, (0,)), (1, (0,))), ("answer", (0,)))


def own_fault(question, couple, word):
    """The fault of a couple whose inputs are in plain tuples."""
    for rows in (couple.inner, couple.outer):
        if list(rows) != sorted(set(rows)):
            return "shape"
    if not set(couple.inner) <= set(couple.outer):
        return "within"
    if couple.fact not in answers_of(question, couple.inner):
        return "told"
    if couple.fact in answers_of(question, couple.outer):
        return "lost"
    old = worths_in(couple.inner) | set(question.constants)
    if word == "single" and any(set(row[1]) <= old for row in couple.outer if row not in couple.inner):
        return "new"
    return None


def drawn_question(draw, tables, **kinds):
    return Question(tables, shaky_rules(draw, tables, draw.random() < 0.4, told=False, **kinds))


def some_rows(question, draw, many, worths):
    """Rows of the question's tables that are tried: all, or some if there are too many."""
    rows = list(all_rows(question.tables, worths))
    return rows if len(rows) <= many else draw.sample(rows, many)


def subsets(rows):
    return [tuple(sorted(some)) for many in range(len(rows) + 1) for some in itertools.combinations(rows, many)]


def is_shrinking(question, rows, by_new_worths):
    """Whether one of all inputs over the rows has an answer that a wider one has not."""
    told = {given: set(answers_of(question, given)) for given in subsets(rows)}
    for inner, answers in told.items():
        old = worths_in(inner) | set(question.constants)
        further = [row for row in rows if row not in inner and not (by_new_worths and set(row[1]) <= old)]
        for more in subsets(further) if answers else ():
            if not answers <= told[tuple(sorted(inner + more))]:
                return True
    return False


class CoupleFaultTest(unittest.TestCase):
    def test_not_flat(self):
        refuses(self, NotFlat, {}, couple_fault, DEEP, Couple([], None, None), "rows")

    def test_each_word(self):
        draw = drawing(181)
        found = {}
        for _ in range(1500):
            tables = draw.choice(((1, 1), (1,), (2,)))
            question = drawn_question(draw, tables)
            inner = drawn_rows(draw, tables, (0, 1, 2), 3)
            outer = drawn_rows(draw, tables, (0, 1, 2, 3, FAR), 3)
            if draw.random() < 0.8:
                outer = tuple(sorted({*inner, *outer}))
            facts = answers_of(question, inner) or (("answer", (0,)),)
            fact = draw.choice(facts) if draw.random() < 0.9 else ("pair", (0,))
            word = draw.choice(("rows", "single", "single"))
            couple = Couple(inner, outer, fact)
            couples = find_need(question).couples
            if couples and draw.random() < 0.4:
                couple = draw.choice(couples)
            expected = own_fault(question, couple, word)
            self.assertEqual(unchanged(self, couple_fault, question, couple, word), expected)
            found[(expected, word)] = found.get((expected, word), 0) + 1
        for kind in (("within", "rows"), ("told", "rows"), ("lost", "rows"), ("new", "single"), (None, "rows"),
                     (None, "single")):
            self.assertGreater(found.get(kind, 0), 8, found)

    def test_shape(self):
        question = Question((1, 1), [ALONE])
        inner, outer, fact = EXAMPLE.inner, EXAMPLE.outer, EXAMPLE.fact
        self.assertIsNone(couple_fault(question, EXAMPLE, "rows"))
        for wrong in (list(outer), as_lists(outer), ([0, (0,)],), ((0, [0]),), outer[::-1], (outer[0], outer[0]), ((2, (0,)),),
                      ((0, (0, 0)),), ((0, (-1,)),), ((0, (True,)),), ((False, (0,)),), None, 3, "ab", {}, (None,), (3,), ((),)):
            for word in ("rows", "single"):
                self.assertEqual(couple_fault(question, Couple(wrong, outer, fact), word), "shape", wrong)
                self.assertEqual(couple_fault(question, Couple(inner, wrong, fact), word), "shape", wrong)

    def test_the_first_that_is_due(self):
        question = Question((1, 1), [ALONE])
        for couple, word, expected in (
                (Couple(((0, (5,)),), (), ("answer", (5,))), "rows", "within"),
                (Couple(((0, (5,)),), ((0, (6,)),), ("pair", (5,))), "single", "within"),
                (Couple(((0, (5,)),), ((0, (5,)),), ("pair", (5,))), "rows", "told"),
                (Couple(((0, (5,)),), ((0, (5,)),), ("answer", (6,))), "single", "told"),
                (Couple((), ((0, (5,)),), ("answer", (5,))), "rows", "told"),
                (Couple(((0, (5,)),), ((0, (5,)),), ("answer", (5,))), "rows", "lost"),
                (Couple(((0, (5,)),), ((0, (5,)), (1, (6,))), ("answer", (5,))), "single", "lost"),
                (EXAMPLE, "rows", None), (EXAMPLE, "single", "new")):
            self.assertEqual(couple_fault(question, couple, word), expected)

    def test_results(self):
        self.assertEqual((EXAMPLE.inner, EXAMPLE.outer, EXAMPLE.fact),
                         (((0, (0,)),), ((0, (0,)), (1, (0,))), ("answer", (0,))))
        self.assertEqual(EXAMPLE, Couple(EXAMPLE.inner, EXAMPLE.outer, EXAMPLE.fact))
        need = Need("single", (EXAMPLE,))
        self.assertEqual((need.word, need.couples), ("single", (EXAMPLE,)))
        self.assertEqual(need, Need("single", (Couple(EXAMPLE.inner, EXAMPLE.outer, EXAMPLE.fact),)))
        for one, other in ((EXAMPLE, Couple((), EXAMPLE.outer, EXAMPLE.fact)), (EXAMPLE, need), (need, Need("rows", ())),
                           (EXAMPLE, Couple(EXAMPLE.inner, (), EXAMPLE.fact)), (EXAMPLE, Couple(EXAMPLE.inner, EXAMPLE.outer, 0)),
                           (need, Need("single", ())), (need, Need("rows", (EXAMPLE,))), (need, None), (EXAMPLE, None)):
            self.assertFalse(one == other)


class FindNeedTest(unittest.TestCase):
    def check(self, question):
        """The need, when its couples were judged."""
        need = unchanged(self, find_need, question)
        words = {"rows": (), "single": ("rows",), "pattern": ("rows", "single")}[need.word]
        self.assertEqual(len(need.couples), len(words))
        for couple, word in zip(need.couples, words):
            self.assertTrue(is_plain((couple.inner, couple.outer, couple.fact)))
            self.assertIsNone(own_fault(question, couple, word))
            self.assertIsNone(couple_fault(question, couple, word))
        return need.word

    def test_against_all_couples(self):
        draw = drawing(182)
        found = {"rows": 0, "single": 0, "pattern": 0}
        for tables, worths, many in (((1,), (0, 1, 2, 3, 4), 80), ((1, 1), (0, 1, 2), 80), ((2,), (0, 1, 2), 25)):
            for _ in range(many):
                question = drawn_question(draw, tables)
                word = self.check(question)
                rows = some_rows(question, draw, 7, worths)
                if word == "rows":
                    self.assertFalse(is_shrinking(question, rows, False), question.rules)
                if word != "pattern":
                    self.assertFalse(is_shrinking(question, rows, True), question.rules)
                found[word] += 1
        self.assertGreater(min(found.values()), 8, found)

    def test_written_out(self):
        for rules, word in (([ALONE], "single"), ([NOBODY], "pattern"), ([ALONE, BESIDE], "rows"), ([NOBODY, BESIDE], "pattern"),
                            ([BESIDE], "rows"), ([("answer", (), [])], "rows"), ([ALONE, NOBODY], "single"),
                            ([("answer", (), [("none", (0, (5,)))])], "single"),
                            ([("answer", (), [("not", 0, (5,))]), ("answer", (), [("row", 0, (5,))])], "rows"),
                            ([("answer", (), [("none", (0, (-1,)))]), ("answer", (), [("row", 0, ("x",))])], "rows"),
                            # Rules that tell no answers mean nothing.
                            ([BESIDE, ("pair", (), [("none", (0, (-1,)))])], "rows")):
            self.assertEqual(self.check(Question((1, 1), rules)), word, rules)
        self.assertEqual(self.check(Question((2,), [("answer", ("x",), [("row", 0, ("x", "y")), ("not", 0, ("y", "x"))])])),
                         "single")
        # A new row with a new worth takes an answer away beside a known worth, too.
        self.assertEqual(self.check(Question((2,), [("answer", ("x",), [("row", 0, ("x", "x")), ("none", (0, (-1, 3)))])])),
                         "pattern")

    def test_not_flat(self):
        refuses(self, NotFlat, {}, find_need, DEEP)

    def test_four_constants_in_seconds(self):
        begin = time.process_time()
        first = ("answer", ("x",), [("row", 0, ("x", "y", "z")), ("row", 0, ("z", "w", 1)), ("none", (0, (-1, -1, 4))),
                                    ("none", (0, (2, -1, -1))), ("not", 0, ("x", "w", 3))])
        wide = ("answer", ("x",), [("row", 0, ("x", "y", "z")), ("row", 0, ("z", "w", 1)), ("unlike", 2, 3), ("unlike", 4, 1)])
        self.assertEqual(self.check(Question((3,), [first])), "pattern")
        self.assertEqual(self.check(Question((3,), [first, wide])), "rows")
        self.assertEqual(self.check(Question((3,), [first, wide, first, first, wide, first])), "rows")
        broken = ("answer", ("x",), [("row", 1, ("x",)), ("row", 0, ("y", "z", 4))])
        whole = ("answer", ("x",), [("row", 1, ("x",)), ("row", 1, ("y",)), ("row", 1, ("z",)), ("row", 1, ("w",)),
                                    ("none", (0, (-1, -1, 4)))])
        self.assertEqual(self.check(Question((3, 1), [whole, broken, ("answer", (1,), [("row", 1, (2,)), ("row", 1, (3,))])])),
                         "rows")
        self.assertLess(time.process_time() - begin, 30)


class BodyCoupleTest(unittest.TestCase):
    def test_against_all_wider_inputs(self):
        draw = drawing(183)
        found = {"none": 0, "no body": 0, "couple": 0}
        for _ in range(150):
            tables = draw.choice(((1,), (1, 1), (2,)))
            question = drawn_question(draw, tables)
            for number, rule in enumerate(question.rules):
                fillings = frozen_fillings(question, number)
                for filling in draw.sample(fillings, min(3, len(fillings))):
                    made = ground(question, number, filling)
                    own = tuple(sorted(set(made.rows)))
                    body = not set(made.nots) & set(own) and not any(
                        matches(pattern, row) for pattern in made.nones for row in own)
                    worths = worths_in(own) | set(question.constants)
                    for word in ("rows", "single"):
                        couple = unchanged(self, body_couple, question, number, filling, word)
                        if not body:
                            self.assertIsNone(couple)
                            found["no body"] += 1
                        elif couple is not None:
                            self.assertEqual(couple.fact, made.head)
                            self.assertIsNone(own_fault(question, couple, word))
                            found["couple"] += 1
                        else:
                            self.none_is_right(draw, question, made, own, worths, word)
                            found["none"] += 1
        self.assertGreater(min(found.values()), 50, found)

    def none_is_right(self, draw, question, made, own, worths, word):
        """No input that the word allows for, out of some, lacks the head."""
        least = max(worths, default=0) + 1
        rows = [row for row in some_rows(question, draw, 9, sorted({*worths, least, least + 1})) if row not in own]
        if word == "single":
            rows = [row for row in rows if row not in made.nots and not (
                set(row[1]) <= worths and any(matches(pattern, row) for pattern in made.nones))]
        for more in subsets(rows):
            self.assertIn(made.head, answers_of(question, own + more))

    def test_not_flat(self):
        refuses(self, NotFlat, {}, body_couple, DEEP, None, None, "rows")

    def test_the_example(self):
        question = Question((1, 1), [ALONE])
        self.assertEqual(body_couple(question, 0, (0,), "rows"), EXAMPLE)
        self.assertIsNone(body_couple(question, 0, (0,), "single"))
        question = Question((1, 1), [NOBODY])
        self.assertEqual(body_couple(question, 0, (0,), "single"), Couple(((0, (0,)),), ((0, (0,)), (1, (1,))), ("answer", (0,))))
        # The own rows break the rule: no body.
        question = Question((1,), [("answer", ("x",), [("row", 0, ("x",)), ("row", 0, ("y",)), ("not", 0, ("y",))])])
        self.assertIsNone(body_couple(question, 0, (0, 1), "rows"))


if __name__ == "__main__":
    unittest.main()
