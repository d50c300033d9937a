"""Promises 10.2, 10.7 to 10.10: which seals are enough."""

import unittest

from soonestsaid.errors import BadCouple, BadQuestion, BadRow, NotFlat, UnlikeTables
from soonestsaid.fillings import ground
from soonestsaid.meaning import answers_of
from soonestsaid.needs import Couple, couple_fault, find_need
from soonestsaid.patterns import all_rows
from soonestsaid.questions import Question, variables_of
from soonestsaid.sealing import enough_seals, join_questions, lead_beyond
from soonestsaid.sure import is_sure, sure_answers
from soonestsaid.views import View
from soonestsaid.wholes import Whole
from tests.helpers import as_lists, drawing, drawn_rows, is_plain, refuses, shuffled, unchanged
from tests.judging import shaky_rules
from tests.test_needs import ALONE, BESIDE, DEEP, NOBODY, drawn_question
from tests.worlds import FAR, matches, small_dealing, worths_in

ANSWER = ("answer", (3,))
ROWS = ((0, (3,)),)


def all_sealed(dealing, rows, seals):
    """The view of a house that heard of all houses, when the rows were put and each house sealed the patterns."""
    return View(dealing, [(house, Whole(dealing.part_of(rows, house), seals)) for house in range(dealing.houses)])


def expected_seals(question, word, rows):
    """The seals by the words of the promise, every filling tried."""
    if word == "rows":
        return ()
    rules = [(number, rule) for number, rule in enumerate(question.rules) if rule[0] == "answer"]
    worths = sorted(worths_in(rows) | set(question.constants))
    if word == "single":
        tables = {condition[1] if condition[0] == "not" else condition[1][0] for _, rule in rules for condition in rule[2]
                  if condition[0] in ("not", "none")}
        return tuple(row for row in all_rows(question.tables, worths) if row[0] in tables and row not in rows)
    found = set()
    for number, rule in rules:
        for cells in all_rows_of(len(variables_of(rule)), worths):
            made = ground(question, number, cells)
            if (made.fits and set(made.rows) <= set(rows) and not set(made.nots) & set(rows)
                    and not any(matches(pattern, row) for pattern in made.nones for row in rows)):
                found |= {*made.nots, *made.nones}
    return tuple(sorted(found))


def all_rows_of(many, worths):
    found = [()]
    for _ in range(many):
        found = [(*cells, worth) for cells in found for worth in worths]
    return found


class EnoughSealsTest(unittest.TestCase):
    def test_each_need(self):
        draw = drawing(191)
        found = {"rows": 0, "single": 0, "pattern": 0}
        sure = 0
        for _ in range(200):
            tables = draw.choice(((1,), (1, 1), (2,), (2, 1)))
            question = drawn_question(draw, tables)
            word = find_need(question).word
            rows = drawn_rows(draw, tables, (0, 1, 2), 4)
            seals = unchanged(self, enough_seals, question, shuffled(draw, rows))
            self.assertEqual(seals, expected_seals(question, word, rows))
            self.assertEqual(enough_seals(question, as_lists(rows)), seals)
            self.assertTrue(is_plain(seals))
            # When all houses have sealed them, each answer of these rows is sure, however rows are dealt.
            view = all_sealed(small_dealing(draw, tables, (0, 1, 2)), rows, seals)
            self.assertEqual(sure_answers(question, view), answers_of(question, rows))
            sure += len(sure_answers(question, view))
            found[word] += 1
        self.assertGreater(min(found.values()), 10, found)
        self.assertGreater(sure, 50)

    def test_single_seals_of_what_is_lacking(self):
        # For a question that needs no patterns, lacking rows over known worths are enough, wherever they are sealed.
        question = Question((1, 1), [ALONE])
        view = all_sealed(small_dealing(drawing(192), (1, 1)), ROWS, [(1, (3,))])
        self.assertTrue(is_sure(question, view, ANSWER))
        self.assertFalse(is_sure(question, all_sealed(view.dealing, ROWS, [(1, (4,))]), ANSWER))

    def test_errors(self):
        for rows, what in ((None, "row"), ([(0, (3,)), (2, (3,))], "table"), ([(0, (True,))], "worth"), ([(0, ())], "width")):
            for question in (DEEP, Question((1, 1), [ALONE])):
                refuses(self, BadRow, {"what": what}, enough_seals, question, rows)
        refuses(self, NotFlat, {}, enough_seals, DEEP, [])

    def test_the_example(self):
        self.assertEqual(enough_seals(Question((1, 1), [ALONE]), ROWS), ((1, (3,)),))
        self.assertEqual(enough_seals(Question((1, 1), [NOBODY]), ROWS), ((1, (-1,)),))
        self.assertEqual(enough_seals(Question((1, 1), [ALONE, BESIDE]), ROWS), ())
        # Only what holds for exactly these rows counts.
        self.assertEqual(enough_seals(Question((1, 1), [NOBODY]), [*ROWS, (1, (8,))]), ())
        # Constants count, and tables of rules that tell answers alone.
        question = Question((1, 1), [("answer", ("x",), [("row", 0, ("x",)), ("not", 1, (9,))]),
                                     ("pair", (), [("not", 0, (4,))])])
        self.assertEqual(enough_seals(question, ROWS), ((1, (3,)), (1, (4,)), (1, (9,))))


class LeadBeyondTest(unittest.TestCase):
    def test_led_couples(self):
        draw = drawing(193)
        led = several = 0
        while led < 60 or several < 8:
            tables = draw.choice(((1,), (1, 1), (2,), (2, 1)))
            question = Question(tables, shaky_rules(draw, tables, False, told=False, constants=draw.choice(((0,), (0, 50)))))
            need = find_need(question)
            if need.word != "pattern":
                continue
            couple = need.couples[1]
            more = drawn_rows(draw, tables, (0, 1, 60, 61, 62), 2)
            wider = Couple(couple.inner, tuple(sorted({*couple.outer, *more})), couple.fact)
            if draw.random() < 0.7 and couple_fault(question, wider, "single") is None:
                couple = wider
            rows = drawn_rows(draw, tables, (0, 1, 5, 8, 70) if draw.random() < 0.9 else (FAR,), 5)
            found = unchanged(self, lead_beyond, question, couple, shuffled(draw, rows))
            self.assertEqual(lead_beyond(question, couple, as_lists(rows)), found)
            self.assertIsNone(couple_fault(question, found, "single"))
            known = worths_in(couple.inner) | set(question.constants)
            new = sorted(worths_in(couple.outer) - known)
            greatest = max(known | worths_in(couple.outer) | worths_in(rows))
            names = {worth: greatest + 1 + at for at, worth in enumerate(new)}
            self.assertEqual(found, Couple(couple.inner, tuple(sorted(
                (table, tuple(names.get(worth, worth) for worth in worths)) for table, worths in couple.outer)), couple.fact))
            self.assertFalse((set(found.outer) - set(found.inner)) & set(rows))
            # Seals of these single rows leave the outer input let and the answer not sure.
            view = all_sealed(small_dealing(draw, tables, (0, 1)), couple.inner, [row for row in rows if row not in couple.inner])
            self.assertTrue(view.lets(found.outer))
            self.assertFalse(is_sure(question, view, couple.fact))
            led += 1
            several += len(new) > 1

    def test_errors_in_their_order(self):
        question = Question((1, 1), [NOBODY])
        good = Couple(((0, (0,)),), ((0, (0,)), (1, (1,))), ("answer", (0,)))
        bad = Couple(good.inner, ((0, (0,)), (1, (0,))), good.fact)
        refuses(self, BadRow, {"what": "row"}, lead_beyond, DEEP, bad, None)
        refuses(self, BadRow, {"what": "width"}, lead_beyond, question, bad, [(0, (1, 2))])
        refuses(self, NotFlat, {}, lead_beyond, DEEP, bad, [])
        for couple, word in ((bad, "new"), (Couple(list(good.inner), good.outer, good.fact), "shape"),
                             (Couple(good.outer, good.inner, good.fact), "within"),
                             (Couple(good.inner, good.inner, good.fact), "lost"),
                             (Couple(good.inner, good.outer, ("answer", (1,))), "told")):
            refuses(self, BadCouple, {"what": word}, lead_beyond, question, couple, [])

    def test_the_example(self):
        couple = Couple(((0, (0,)),), ((0, (0,)), (1, (1,))), ("answer", (0,)))
        found = lead_beyond(Question((1, 1), [NOBODY]), couple, ((1, (1,)), (1, (8,))))
        self.assertEqual(found, Couple(((0, (0,)),), ((0, (0,)), (1, (9,))), ("answer", (0,))))


class JoinQuestionsTest(unittest.TestCase):
    def test_joined(self):
        draw = drawing(194)
        grown = 0
        for _ in range(150):
            tables = draw.choice(((1,), (1, 1)))
            one, other = (Question(tables, shaky_rules(draw, tables, False, 2, told=False)) for _ in range(2))
            if len(one.rules[0][1]) != len(other.rules[0][1]):
                refuses(self, BadQuestion, {"rule": len(one.rules), "what": "width"}, join_questions, one, other)
                continue
            joined = unchanged(self, join_questions, one, other)
            self.assertEqual(joined, Question(tables, one.rules + other.rules))
            rows = drawn_rows(draw, tables, (0, 1, 2), 4)
            self.assertEqual(set(answers_of(joined, rows)), {*answers_of(one, rows), *answers_of(other, rows)})
            words = [find_need(question).word for question in (one, other)]
            order = ("rows", "single", "pattern")
            self.assertLessEqual(order.index(find_need(joined).word), max(order.index(word) for word in words))
            grown += words == ["rows", "rows"]
        self.assertGreater(grown, 1)

    def test_errors(self):
        one = Question((1, 1), [ALONE] * 4)
        refuses(self, UnlikeTables, {}, join_questions, one, Question((1, 2), [("answer", ("x",), [("row", 0, ("x",))])] * 3))
        refuses(self, UnlikeTables, {}, join_questions, Question((1,), [("answer", (), [])]), one)
        refuses(self, BadQuestion, {"rule": None, "what": "rules"}, join_questions, one, Question((1, 1), [BESIDE] * 3))
        self.assertEqual(len(join_questions(one, Question((1, 1), [BESIDE] * 2)).rules), 6)
        refuses(self, BadQuestion, {"rule": 4, "what": "width"}, join_questions, one, Question((1, 1), [("answer", (), [])]))


if __name__ == "__main__":
    unittest.main()
