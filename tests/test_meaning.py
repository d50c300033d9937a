"""Promises 4.1 to 4.6: what is told, and derivations."""

import itertools
import unittest

from soonestsaid.fillings import ground
from soonestsaid.meaning import Given, answers_of, basis_derivation, basis_facts, basis_fault, derivation_fault
from soonestsaid.meaning import derivation_of, told_facts
from soonestsaid.patterns import covers
from soonestsaid.questions import Question, variables_of
from tests.helpers import as_lists, drawing, drawn_pattern, drawn_row, drawn_rows, drawn_rules, is_plain, shuffled
from tests.helpers import unchanged

FAR = 10 ** 60


class Basis:
    """A basis that lacks some rows and patterns alone, and counts no calls."""

    def __init__(self, rows, lacking, empties):
        self.rows = rows
        self.lacking = lacking
        self.empties = empties

    def lacks(self, row):
        return row in self.lacking

    def without(self, pattern):
        return pattern in self.empties


def holds(question, basis, number, filling, facts):
    made = ground(question, number, filling)
    return (made.fits and all(row in basis.rows for row in made.rows) and all(fact in facts for fact in made.facts)
            and all(basis.lacks(row) for row in made.nots) and all(basis.without(pattern) for pattern in made.nones))


def rounds(question, basis):
    """All told facts, round by round, by trying every filling."""
    worths = sorted({worth for _, worths in basis.rows for worth in worths} | set(question.constants))
    told = set()
    while True:
        further = {
            ground(question, number, filling).head
            for number, rule in enumerate(question.rules)
            for filling in itertools.product(worths, repeat=len(variables_of(rule)))
            if holds(question, basis, number, filling, told)}
        if further <= told:
            return tuple(sorted(told))
        told |= further


def drawn_case(draw):
    tables = tuple(draw.randint(1, 2) for _ in range(draw.randint(1, 2)))
    question = Question(tables, drawn_rules(draw, tables, constants=draw.choice(((0, 1), (2, FAR)))))
    return question, drawn_rows(draw, tables, (0, 1, 2, FAR), 7)


# Transitive ways: rules that call themselves and one another.
WAYS = (("answer", ("x", "y"), (("told", "way", ("x", "y")), ("not", 0, ("x", "y")))),
        ("way", ("x", "z"), (("told", "way", ("x", "y")), ("told", "step", ("y", "z")))),
        ("step", ("x", "y"), (("row", 0, ("x", "y")), ("unlike", "x", "y"))),
        ("way", ("x", "y"), (("told", "step", ("x", "y")),)))


class GivenTest(unittest.TestCase):
    def test_rows(self):
        rows = [(1, (4, 2)), (0, (9,)), (0, (FAR,)), (0, (9,))]
        expected = ((0, (9,)), (0, (FAR,)), (1, (4, 2)))
        for given in (rows, tuple(rows), as_lists(rows)):
            found = unchanged(self, Given, given)
            self.assertEqual(found.rows, expected)
            self.assertTrue(is_plain(found.rows))
        self.assertEqual(Given(()).rows, ())
        changed = as_lists(rows)
        basis = Given(changed)
        changed[0][1][0] = 5
        changed.pop()
        self.assertEqual(basis.rows, expected)

    def test_lacks_and_without(self):
        draw = drawing(61)
        for _ in range(300):
            tables = tuple(draw.randint(1, 3) for _ in range(draw.randint(1, 3)))
            rows = drawn_rows(draw, tables, (0, 1, FAR), 5)
            basis = Given(shuffled(draw, rows))
            for row in [drawn_row(draw, tables, (0, 1, 2, FAR)), *rows]:
                self.assertIs(basis.lacks(row), row not in rows)
                self.assertIs(basis.without(row), row not in rows)
            pattern = drawn_pattern(draw, tables, (0, 1, 2, FAR))
            self.assertIs(basis.without(pattern), not any(covers(pattern, row) for row in rows))


class ToldTest(unittest.TestCase):
    def test_against_rounds(self):
        draw = drawing(62)
        told = 0
        for _ in range(600):
            question, rows = drawn_case(draw)
            expected = rounds(question, Given(rows))
            found = unchanged(self, told_facts, question, shuffled(draw, rows))
            self.assertEqual(found, expected, (question.rules, rows))
            self.assertTrue(is_plain(found))
            self.assertEqual(answers_of(question, shuffled(draw, rows)),
                             tuple(fact for fact in expected if fact[0] == "answer"))
            self.assertEqual(basis_facts(question, Given(rows)), expected)
            told += len(expected)
        self.assertGreater(told, 500)

    def test_order_of_rules_means_nothing(self):
        draw = drawing(63)
        for _ in range(100):
            question, rows = drawn_case(draw)
            expected = told_facts(question, rows)
            for _ in range(3):
                other = Question(question.tables, shuffled(draw, question.rules, doubles=False))
                self.assertEqual(told_facts(other, shuffled(draw, rows)), expected)

    def test_rules_that_call_themselves(self):
        question = Question((2,), WAYS)
        rows = [(0, (k, k + 1)) for k in range(6)] + [(0, (3, 3)), (0, (0, 2))]
        found = told_facts(question, rows)
        self.assertEqual([fact for fact in found if fact[0] == "way"],
                         [("way", (x, y)) for x in range(7) for y in range(x + 1, 7)])
        self.assertEqual(answers_of(question, rows), tuple(
            ("answer", (x, y)) for x in range(7) for y in range(x + 1, 7) if y > x + 1 and (x, y) != (0, 2)))
        for rules in itertools.permutations(WAYS):
            self.assertEqual(told_facts(Question((2,), rules), rows), found)

    def test_rules_that_call_one_another(self):
        rules = [("even", (0,), ()), ("odd", ("y",), (("told", "even", ("x",)), ("row", 0, ("x", "y")))),
                 ("even", ("y",), (("told", "odd", ("x",)), ("row", 0, ("x", "y")))),
                 ("answer", ("x",), (("told", "even", ("x",)), ("unlike", "x", 4)))]
        rows = [(0, (k, k + 1)) for k in range(8)]
        for order in itertools.permutations(rules):
            self.assertEqual(answers_of(Question((2,), order), rows), tuple(("answer", (x,)) for x in (0, 2, 6, 8)))

    def test_a_circle_tells_nothing_by_itself(self):
        rules = [("answer", (), (("told", "pair", ()),)), ("pair", (), (("told", "answer", ()),))]
        self.assertEqual(told_facts(Question((1,), rules), [(0, (1,))]), ())

    def test_a_name_that_no_rule_tells(self):
        rules = [("answer", ("x",), (("told", "nobody", ("x", 1, 2, 3)),)), ("answer", (9,), ())]
        self.assertEqual(told_facts(Question((1,), rules), [(0, (1,))]), (("answer", (9,)),))

    def test_not_and_none(self):
        rules = [("answer", ("x",), (("row", 0, ("x",)), ("not", 1, ("x", "x")), ("none", (1, (7, -1)))))]
        question = Question((1, 2), rules)
        for rows, worths in (
                ([(0, (1,)), (0, (2,))], [1, 2]), ([(0, (1,)), (0, (2,)), (1, (1, 1))], [2]),
                ([(0, (1,)), (1, (1, 2))], [1]), ([(0, (1,)), (1, (7, 5))], []), ([(0, (1,)), (1, (5, 7))], [1]), ([], [])):
            self.assertEqual(answers_of(question, rows), tuple(("answer", (x,)) for x in worths))

    def test_any_basis(self):
        draw = drawing(64)
        told = 0
        for _ in range(200):
            question, rows = drawn_case(draw)
            lacking = [drawn_row(draw, question.tables, (0, 1, 2, FAR)) for _ in range(6)]
            empties = [pattern for pattern in question.patterns if draw.random() < 0.5]
            basis = Basis(rows, lacking, empties)
            expected = rounds(question, basis)
            self.assertEqual(basis_facts(question, basis), expected)
            for fact in expected:
                derivation = basis_derivation(question, basis, fact)
                self.assertIsNone(basis_fault(question, basis, fact, derivation))
            self.assertIsNone(basis_derivation(question, basis, ("answer", (5, 5, 5))))
            told += len(expected)
        self.assertGreater(told, 100)

    def test_what_is_open_holds_nothing(self):
        question = Question((1,), [("answer", (1,), (("not", 0, (3,)),)), ("answer", (2,), (("none", (0, (-1,))),))])
        open_one = Basis((), [], [])
        self.assertEqual(basis_facts(question, open_one), ())
        self.assertEqual(basis_facts(question, Basis((), [(0, (3,))], [])), (("answer", (1,)),))
        self.assertEqual(basis_facts(question, Basis((), [], [(0, (-1,))])), (("answer", (2,)),))
        self.assertEqual(basis_fault(question, open_one, ("answer", (1,)), [(0, ())]), 0)
        self.assertEqual(basis_fault(question, open_one, ("answer", (2,)), [(1, ())]), 0)

    def test_twelve_rows(self):
        rows = [(0, (k, (k + 1) % 12)) for k in range(12)]
        question = Question((2,), WAYS[1:] + (("answer", ("x",), (("told", "way", ("x", "x")),)),))
        self.assertEqual(len(told_facts(question, rows)), 12 + 144 + 12)
        fact = ("way", (3, 3))
        self.assertIsNone(derivation_fault(question, rows, fact, derivation_of(question, rows, fact)))


class DerivationTest(unittest.TestCase):
    def test_each_told_fact_has_one(self):
        draw = drawing(65)
        many = 0
        for _ in range(200):
            question, rows = drawn_case(draw)
            given = shuffled(draw, rows)
            told = told_facts(question, rows)
            for fact in told:
                derivation = unchanged(self, derivation_of, question, given, fact)
                self.assertTrue(is_plain(derivation))
                heads = [ground(question, number, filling).head for number, filling in derivation]
                self.assertEqual(len(heads), len(set(heads)))
                self.assertEqual(heads[-1], fact)
                for at, (number, filling) in enumerate(derivation):
                    self.assertTrue(holds(question, Given(rows), number, filling, heads[:at]))
                self.assertIsNone(unchanged(self, derivation_fault, question, given, fact, derivation))
                self.assertIsNone(derivation_fault(question, as_lists(rows), fact, as_lists(derivation)))
                self.assertIsNone(basis_fault(question, Given(rows), fact, derivation))
                self.assertEqual(basis_derivation(question, Given(rows), fact), derivation)
                many += len(derivation) > 1
            for fact in (("answer", (0, 1, 2)), ("answer", ()), ("nobody", (1,)), ("pair", (1, 1)), ("far", (FAR,))):
                if fact not in told:
                    self.assertIsNone(derivation_of(question, rows, fact))
                    self.assertIsNone(basis_derivation(question, Given(rows), fact))
        self.assertGreater(many, 50)

    def test_an_untold_fact_has_none(self):
        question = Question((2,), WAYS)
        self.assertIsNone(derivation_of(question, [(0, (1, 2))], ("way", (2, 1))))
        self.assertIsNone(derivation_of(question, [(0, (1, 2))], ("answer", (1, 2))))
        self.assertEqual(derivation_of(question, [(0, (1, 2))], ("step", (1, 2))), ((2, (1, 2)),))


class FaultTest(unittest.TestCase):
    ROWS = [(0, (1, 2)), (0, (2, 3)), (0, (5, 5))]
    RIGHT = ((2, (1, 2)), (3, (1, 2)), (2, (2, 3)), (1, (1, 2, 3)), (0, (1, 3)))
    FACT = ("answer", (1, 3))

    def setUp(self):
        self.question = Question((2,), WAYS)

    def fault(self, derivation, place, fact=FACT, rows=None):
        rows = self.ROWS if rows is None else rows
        self.assertEqual(unchanged(self, derivation_fault, self.question, rows, fact, derivation), place, derivation)
        self.assertEqual(basis_fault(self.question, Given(rows), fact, derivation), place)

    def test_right_ones(self):
        self.fault(self.RIGHT, None)
        self.fault(as_lists(self.RIGHT), None)
        self.fault([tuple(step) for step in self.RIGHT], None)
        self.fault([[number, filling] for number, filling in self.RIGHT], None)
        # Steps that are not needed, and a head that comes again, do no harm.
        self.fault(((2, (2, 3)), (3, (2, 3)), *self.RIGHT), None)
        self.fault((*self.RIGHT, *self.RIGHT), None)
        self.fault((*self.RIGHT[:3], self.RIGHT[0], *self.RIGHT[3:]), None)
        self.fault(self.RIGHT[:4], None, ("way", (1, 3)))

    def test_no_sequence(self):
        for derivation in (None, 0, 5, True, "ab", "", {}, {0: 1}, set(), {1, 2}):
            self.fault(derivation, 0)

    def test_no_step(self):
        self.fault((), 0)
        self.fault([], 0)
        self.fault((), 0, ("nobody", ()))

    def test_another_head(self):
        self.fault(self.RIGHT, 5, ("answer", (1, 2)))
        self.fault(self.RIGHT, 5, ("way", (1, 3)))
        self.fault(self.RIGHT, 5, ("nobody", ()))
        self.fault(self.RIGHT[:4], 4)
        self.fault((*self.RIGHT, self.RIGHT[0]), 6)

    def test_what_is_no_step(self):
        for step in (None, 3, True, "ab", "", {}, {2: (1, 2), 3: 4}, {1, 2}, (), (2,), (2, (1, 2), 0), [2], ("2", (1, 2)),
                     (4, (1, 2)), (-1, (1, 2)), (-4, (1, 2)), (True, (1, 2, 3)), (None, (1, 2)), (2.0, (1, 2)), ((2,), (1, 2)),
                     (2, None), (2, 12), (2, "12"), (2, {1: 1, 2: 2}), (2, {1, 2}), (2, ()), (2, (1,)), (2, (1, 2, 2)),
                     (2, (1, True)), (2, (-1, 2)), (2, (1, -2)), (2, (1, None)), (2, ("1", "2")), (2, (1.0, 2)),
                     (2, ((1,), 2)), (2, ([1], 2))):
            for at in range(6):
                self.fault((*self.RIGHT[:at], step, *self.RIGHT[at:]), at)
                self.fault([*as_lists(self.RIGHT[:at]), step, *self.RIGHT[at:]], at)

    def test_false_is_no_number(self):
        question = Question((1,), [("answer", (), ()), ("pair", (), ())])
        self.assertEqual(derivation_fault(question, (), ("answer", ()), ((False, ()),)), 0)
        self.assertEqual(derivation_fault(question, (), ("pair", ()), ((0, ()), (True, ()))), 1)
        self.assertIsNone(derivation_fault(question, (), ("pair", ()), ((0, ()), (1, ()))))

    def test_what_does_not_hold(self):
        # A row that is not there, an 'unlike' that fails, a fact that comes later, or not at all.
        for step in ((2, (2, 1)), (2, (FAR, 2)), (2, (5, 5)), (3, (2, 3)), (1, (1, 2, 3)), (0, (1, 2))):
            self.fault((self.RIGHT[0], step, *self.RIGHT[1:]), 1)
        # A 'not' that fails though the fact is told.
        self.fault((*self.RIGHT[:2], (0, (1, 2)), *self.RIGHT[2:]), 2, ("answer", (1, 2)))
        self.fault(self.RIGHT, 4, rows=[*self.ROWS, (0, (1, 3))])
        self.fault(self.RIGHT, 0, rows=[])
        # The first fault alone is told.
        self.fault((self.RIGHT[1], (9, ()), None), 0)
        # A fact does not help to tell itself.
        self.fault(((1, (1, 1, 1)),), 0, ("way", (1, 1)))

    def test_left_out_steps(self):
        for at, place in ((0, 0), (1, 2), (2, 2), (3, 3), (4, 4)):
            self.fault(self.RIGHT[:at] + self.RIGHT[at + 1:], place)

    def test_none(self):
        question = Question((1, 1), [("answer", ("x",), (("row", 0, ("x",)), ("none", (1, (-1,)))))])
        fact, derivation = ("answer", (4,)), ((0, (4,)),)
        self.assertIsNone(derivation_fault(question, [(0, (4,))], fact, derivation))
        self.assertEqual(derivation_fault(question, [(0, (4,)), (1, (9,))], fact, derivation), 0)

    def test_drawn_derivations(self):
        draw = drawing(66)
        faulty = 0
        for _ in range(150):
            question, rows = drawn_case(draw)
            told = told_facts(question, rows)
            worths = (0, 1, 2, FAR)
            for _ in range(20):
                if told and draw.random() < 0.7:
                    fact = draw.choice(told)
                    steps = list(derivation_of(question, rows, fact))
                else:
                    fact, steps = ("answer", tuple(draw.choice(worths) for _ in range(draw.randint(0, 3)))), []
                for _ in range(draw.randint(0, 2)):
                    number = draw.randrange(len(question.rules))
                    filling = tuple(draw.choice(worths) for _ in variables_of(question.rules[number]))
                    steps.insert(draw.randint(0, len(steps)), (number, filling))
                if steps and draw.random() < 0.3:
                    steps.pop(draw.randrange(len(steps)))
                heads = []
                place = None
                for at, (number, filling) in enumerate(steps):
                    if place is None and not holds(question, Given(rows), number, filling, heads):
                        place = at
                    heads.append(ground(question, number, filling).head)
                if place is None and heads[-1:] != [fact]:
                    place = len(steps)
                self.assertEqual(derivation_fault(question, rows, fact, steps), place)
                faulty += place is not None and place < len(steps)
        self.assertGreater(faulty, 300)


class WhatFollowsTest(unittest.TestCase):
    def test_a_wider_input_tells_all(self):
        draw = drawing(67)
        for _ in range(150):
            tables = (2, 1)
            question = Question(tables, drawn_rules(draw, tables, words=("row", "told", "unlike")))
            rows = drawn_rows(draw, tables, (0, 1, 2, 3), 4)
            more = drawn_rows(draw, tables, (0, 1, 2, 3), 4)
            self.assertLessEqual(set(told_facts(question, rows)), set(told_facts(question, rows + more)))

    def test_few_worths(self):
        draw = drawing(68)
        for _ in range(200):
            question, rows = drawn_case(draw)
            kept = set(question.constants) | {worth for worth in (0, 1, 2) if draw.random() < 0.3}
            for pattern in question.patterns:
                covered = [row for row in rows if covers(pattern, row)]
                if covered:
                    kept.update(draw.choice(covered)[1])
            cut = [row for row in rows if set(row[1]) <= kept]
            self.assertLessEqual(set(told_facts(question, cut)), set(told_facts(question, rows)))


if __name__ == "__main__":
    unittest.main()
