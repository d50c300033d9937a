"""Promises 15.1 to 15.10: questions that need no letters."""

import itertools
import time
import unittest

from soonestsaid.dealings import Dealing
from soonestsaid.errors import BadDealing, FewRows, NotOfRows, UnlikeTables
from soonestsaid.fillings import ground
from soonestsaid.meaning import answers_of
from soonestsaid.questions import Question, variables_of
from soonestsaid.spread import (
    Carry, carried_fault, common_homes, least_facts, least_fillings, silent_answers, spread_out, unmet_lot, wider_lot)
from tests.helpers import drawing, drawn_row, drawn_rows, drawn_terms, is_plain, refuses, shuffled, unchanged
from tests.worlds import FAR, one_house, renamed, small_dealing, worths_in

ROW = ("answer", ("x",), [("row", 0, ("x",))])
SINGLE = Question((1,), [ROW])
NOT = Question((1,), [("answer", ("x",), [("row", 0, ("x",)), ("not", 0, (3,))])])
NONE = Question((1,), [("answer", (), [("none", (0, (-1,)))])])
TOLD = Question((1,), [ROW, ("pair", (), [("told", "answer", ("x",))])])
OTHERS = (NOT, NONE, TOLD)
# The examples: table 0 is r, table 1 is s.
TWICE = Question((2, 2), [("answer", ("x",), [("row", 0, ("x", "y")), ("row", 0, ("x", "z"))])])
JOINED = Question((2, 2), [("answer", ("x", "z"), [("row", 0, ("x", "y")), ("row", 1, ("y", "z"))])])
BACK = Question((2, 2), [("answer", ("x",), [("row", 0, ("x", "y")), ("row", 1, ("y", "x"))])])


def drawn_question(draw, tables, constants=(0,), most=3, variables="xyz"):
    """A question of 'row' and 'unlike' conditions, each rule of which asks for several rows."""
    width = draw.choice((0, 1, 1, 2))
    found = []
    for name in ["answer", *[draw.choice(("answer", "answer", "far")) for _ in range(draw.randint(0, most - 1))]]:
        conditions = []
        for _ in range(draw.choice((0, 1, 2, 2, 3))):
            table = draw.randrange(len(tables))
            conditions.append(("row", table, drawn_terms(draw, variables, constants, tables[table])))
        bound = sorted({term for _, _, terms in conditions for term in terms if isinstance(term, str)})
        if bound and draw.random() < 0.3:
            conditions.append(("unlike", *drawn_terms(draw, bound, constants, 2)))
        draw.shuffle(conditions)
        found.append((name, drawn_terms(draw, bound, constants, width), tuple(conditions)))
    draw.shuffle(found)
    return Question(tables, found)


def drawn_lot(draw, question, worths, most=1):
    """The rows of a filling of one of the rules, and perhaps others."""
    number = draw.choice([number for number, rule in enumerate(question.rules) if rule[0] == "answer"])
    filling = tuple(draw.choice(worths) for _ in variables_of(question.rules[number]))
    return tuple(sorted({*ground(question, number, filling).rows, *drawn_rows(draw, question.tables, worths, draw.choice((0, 0, most)))}))


def narrower(draw, question):
    """A question with rules of the given one, in which variables are made alike, or conditions are left out."""
    found = []
    for name, terms, conditions in question.rules:
        bound = variables_of((name, terms, conditions))
        names = {draw.choice(bound): draw.choice((*bound, 0))} if bound and draw.random() < 0.5 else {}
        left = [(condition[0], *([condition[1]] if condition[0] == "row" else []), *(
            [tuple(names.get(term, term) for term in condition[-1])] if condition[0] == "row"
            else [names.get(term, term) for term in condition[1:]])) for condition in conditions]
        if len(left) > 2 and draw.random() < 0.5:
            del left[draw.randrange(len(left))]
        there = {term for condition in left if condition[0] == "row" for term in condition[2]}
        if all(not isinstance(term, str) or term in there for condition in left for term in condition[1:] if condition[0] == "unlike"):
            found.append((name, tuple(names.get(term, term) if names.get(term, term) in there else 0 for term in terms), tuple(left)))
    return Question(question.tables, found if "answer" in [rule[0] for rule in found] else question.rules)


def scattered_dealing(draw, tables, special, most_houses=3):
    """A dealing in which the rows of each kind have homes of their own."""
    houses, modulus = draw.randint(2, most_houses), draw.randint(1, 2)
    accepts = [(house, table, tuple((rest,) for rest in rests)) for table, width in enumerate(tables)
               for rests in itertools.product(range(modulus), repeat=width)
               for house in draw.sample(range(houses), draw.choice((1, 1, 2)))]
    rows = sorted({drawn_row(draw, tables, special) for _ in range(draw.randint(0, 2))})
    return Dealing(tables, houses, modulus, accepts, [
        (row, tuple(sorted(draw.sample(range(houses), draw.randint(1, houses))))) for row in rows])


def own_fillings(question, number, worths, modulus):
    """The typical fillings, picked out of all over the worths and enough new ones."""
    many = len(variables_of(question.rules[number]))
    least = max(worths, default=-1) + 1
    new = {rest: [worth for worth in range(least, least + modulus * (many + 1)) if worth % modulus == rest] for rest in range(modulus)}
    found = []
    for filling in itertools.product([*worths, *sorted(sum(new.values(), []))], repeat=many):
        first = [worth for at, worth in enumerate(filling) if worth >= least and worth not in filling[:at]]
        if all([worth for worth in first if worth % modulus == rest] == new[rest][:len([
                worth for worth in first if worth % modulus == rest])] for rest in range(modulus)):
            if ground(question, number, filling).fits:
                found.append(filling)
    return found


def own_least_facts(question, lot):
    """The answers of the lot that no lesser lot tells, all of which are looked at."""
    lesser = set()
    for many in range(len(lot)):
        for some in itertools.combinations(lot, many):
            lesser |= set(answers_of(question, some))
    return tuple(fact for fact in answers_of(question, lot) if fact not in lesser)


def own_lots(question, worths, modulus):
    """The heads of all typical fillings of rules that tell answers, with their rows."""
    found = set()
    known = sorted({*worths, *question.constants})
    for number, rule in enumerate(question.rules):
        if rule[0] == "answer":
            for filling in own_fillings(question, number, known, modulus):
                made = ground(question, number, filling)
                found.add((made.head, tuple(sorted(set(made.rows)))))
    return found


def own_least_fillings(question, worths, modulus):
    return tuple(sorted((fact, lot) for fact, lot in own_lots(question, worths, modulus) if fact in own_least_facts(question, lot)))


def is_met(dealing, lot):
    return any(all(house in dealing.homes(row) for row in lot) for house in range(dealing.houses))


class LeastTest(unittest.TestCase):
    def test_least_facts_against_all_lesser_lots(self):
        draw = drawing(371)
        sizes = {}
        for _ in range(600):
            tables = draw.choice(((1,), (1, 1), (2,), (2, 1)))
            question = drawn_question(draw, tables)
            lot = drawn_lot(draw, question, (0, 1, 2, 3), 3)
            found = unchanged(self, least_facts, question, lot)
            self.assertEqual(found, own_least_facts(question, lot))
            self.assertTrue(is_plain(found))
            self.assertEqual(least_facts(question, list(lot)), found)
            if found:
                sizes[len(lot)] = sizes.get(len(lot), 0) + 1
        self.assertGreater(min(sizes.get(size, 0) for size in (0, 1, 2, 3)), 2, sizes)

    def test_rows_of_other_rules_count(self):
        question = Question((1, 1), [("answer", ("x",), [("row", 0, ("x",)), ("row", 1, ("x",))]), ("answer", (5,), [("row", 1, ("x",))]),
                                     ("answer", (6,), [])])
        self.assertEqual(least_facts(question, ((0, (5,)), (1, (5,)))), ())
        self.assertEqual(least_facts(question, ((0, (4,)), (1, (4,)))), (("answer", (4,)),))
        self.assertEqual(least_facts(question, ((1, (4,)),)), (("answer", (5,)),))
        self.assertEqual(least_facts(question, ()), (("answer", (6,)),))
        # Lots of unlike size are least for one answer.
        question = Question((1, 1), [("answer", (), [("row", 0, (1,)), ("row", 1, (1,))]), ("answer", (), [("row", 0, (2,))])])
        for lot, facts in ((((0, (1,)), (1, (1,))), 1), (((0, (2,)),), 1), (((0, (1,)), (0, (2,)), (1, (1,))), 0), (((0, (1,)),), 0)):
            self.assertEqual(len(least_facts(question, lot)), facts)

    def test_least_fillings_against_all_typical_fillings(self):
        draw = drawing(372)
        many = {}
        for _ in range(90):
            tables = draw.choice(((1,), (1, 1), (2,), (2, 1)))
            question = drawn_question(draw, tables, draw.choice(((0,), (0, 3))), variables=draw.choice(("xy", "xyz")))
            worths, modulus = draw.sample((0, 1, 2, 7), draw.randint(0, 2)), draw.randint(1, 3)
            found = unchanged(self, least_fillings, question, shuffled(draw, worths), modulus)
            self.assertEqual(found, own_least_fillings(question, worths, modulus))
            self.assertTrue(is_plain(found))
            many[modulus] = many.get(modulus, 0) + len(found)
        self.assertGreater(min(many.values()), 40, many)

    def test_each_least_lot_is_of_a_typical_kind(self):
        # Of any worths: exchanged for others outside the known ones, one for one, each for one of the same rest.
        draw = drawing(373)
        seen = 0
        for _ in range(120):
            tables = draw.choice(((1, 1), (2,), (2, 1)))
            question = drawn_question(draw, tables)
            modulus = draw.randint(1, 3)
            lot = drawn_lot(draw, question, (0, 1, 5, 6, 11, FAR))
            facts = least_facts(question, lot)
            if not facts:
                continue
            known = {0, 1, *question.constants}
            typical = least_fillings(question, (0, 1), modulus)
            for fact in facts:
                self.assertTrue(any(self.are_alike((fact, lot), other, known, modulus) for other in typical), (fact, lot))
                seen += 1
        self.assertGreater(seen, 20)

    def are_alike(self, one, other, known, modulus):
        """Whether a couple becomes the other one by such an exchange."""
        free = sorted((worths_in(one[1]) | set(one[0][1])) - known)
        into = sorted((worths_in(other[1]) | set(other[0][1])) - known)
        if len(free) != len(into):
            return False
        for order in itertools.permutations(into):
            names = dict(zip(free, order))
            if all(key % modulus == value % modulus for key, value in names.items()):
                fact = (one[0][0], tuple(names.get(worth, worth) for worth in one[0][1]))
                if (fact, renamed(one[1], names)) == other:
                    return True
        return False

    def test_written_out(self):
        self.assertEqual(least_fillings(SINGLE), ((("answer", (0,)), ((0, (0,)),)),))
        self.assertEqual(least_fillings(SINGLE, [5], 2), (
            (("answer", (5,)), ((0, (5,)),)), (("answer", (6,)), ((0, (6,)),)), (("answer", (7,)), ((0, (7,)),))))
        self.assertEqual(least_fillings(Question((1,), [("answer", (), [])])), ((("answer", ()), ()),))
        self.assertEqual(least_fillings(Question((1,), [ROW, ("far", (1,), [("row", 0, (1,)), ("row", 0, (2,))])]), (), 1)[0],
                         (("answer", (1,)), ((0, (1,)),)))


class HomesTest(unittest.TestCase):
    def test_common_homes(self):
        draw = drawing(374)
        found = set()
        for _ in range(150):
            tables = draw.choice(((1,), (1, 1), (2, 1)))
            dealing = small_dealing(draw, tables, most_exceptions=4)
            lot = drawn_rows(draw, tables, (0, 1, 2, 3), 3)
            expected = tuple(house for house in range(dealing.houses) if all(house in dealing.homes(row) for row in lot))
            self.assertEqual(unchanged(self, common_homes, dealing, lot), expected)
            self.assertEqual(common_homes(dealing, ()), tuple(range(dealing.houses)))
            found.add((len(lot), len(expected)))
        self.assertGreater(len(found), 8)

    def test_silent_answers(self):
        draw = drawing(375)
        for _ in range(100):
            tables = draw.choice(((1,), (1, 1), (2, 1)))
            question, dealing = drawn_question(draw, tables), small_dealing(draw, tables)
            rows = drawn_rows(draw, tables, (0, 1, 2), 6)
            found = unchanged(self, silent_answers, question, dealing, shuffled(draw, rows, doubles=False))
            self.assertEqual(found, tuple(answers_of(question, [row for row in rows if house in dealing.homes(row)])
                                          for house in range(dealing.houses)))
            self.assertTrue(is_plain(found))

    def test_unmet_lot_against_all_typical_fillings_and_inputs(self):
        draw = drawing(376)
        found = {"none": 0, "lot": 0}
        for _ in range(200):
            tables = draw.choice(((1,), (1, 1), (2,), (2, 1)))
            question, dealing = drawn_question(draw, tables), scattered_dealing(draw, tables, (0, 1))
            lot = unchanged(self, unmet_lot, question, dealing)
            typical = own_least_fillings(question, dealing.special, dealing.modulus)
            if lot is None:
                found["none"] += 1
                self.assertTrue(all(is_met(dealing, other) for _, other in typical))
                for _ in range(6):
                    rows = drawn_rows(draw, tables, draw.choice(((0, 1, 2), (0, 1, 4, FAR), (7, 8, 9))), 6)
                    parts = silent_answers(question, dealing, rows)
                    self.assertEqual(set(answers_of(question, rows)), {fact for part in parts for fact in part})
            else:
                found["lot"] += 1
                self.assertTrue(is_plain(lot))
                facts = own_least_facts(question, lot)
                self.assertTrue(facts and not is_met(dealing, lot))
                told = {fact for part in silent_answers(question, dealing, lot) for fact in part}
                self.assertFalse(set(facts) & told)
        self.assertGreater(min(found.values()), 15, found)

    def test_all_inputs_of_few_rows(self):
        draw = drawing(377)
        found = {True: 0, False: 0}
        for _ in range(100):
            question, dealing = drawn_question(draw, (2,)), scattered_dealing(draw, (2,), (0, 1))
            worths = range(2 * (3 + len(dealing.special)))
            rows = sorted({drawn_row(draw, (2,), worths) for _ in range(3)} | {drawn_row(draw, (2,), (0, 1)) for _ in range(4)})
            right = unmet_lot(question, dealing) is None
            for many in range(4):
                for some in itertools.combinations(rows, many):
                    told = {fact for part in silent_answers(question, dealing, some) for fact in part}
                    if right:
                        self.assertEqual(told, set(answers_of(question, some)))
            found[right] += 1
        self.assertGreater(min(found.values()), 5, found)

    def test_errors(self):
        dealing = one_house((1,))
        for question in OTHERS:
            for call, args in ((least_facts, (None,)), (least_fillings, (None, None)), (silent_answers, (None, None)),
                               (unmet_lot, (one_house((2,)),)), (wider_lot, (None,))):
                refuses(self, NotOfRows, {}, call, question, *args)
        for tables in ((1, 1), (2,)):
            refuses(self, BadDealing, {"what": "tables", "at": 0}, unmet_lot, SINGLE, one_house(tables))
        self.assertIsNone(unmet_lot(SINGLE, dealing))


class CarriedTest(unittest.TestCase):
    def test_wider_lot_against_all_typical_fillings(self):
        draw = drawing(378)
        found = {"none": 0, "wider": 0, "same": 0}
        for _ in range(200):
            tables = draw.choice(((1,), (1, 1), (2,), (2, 1)))
            question = drawn_question(draw, tables)
            lot = drawn_lot(draw, question, (0, 1, 5)) if draw.random() < 0.7 else drawn_rows(draw, tables, (0, 1, 5), 2)
            lot = tuple(sorted(draw.sample(lot, min(len(lot), draw.randint(0, 3)))))
            couple = unchanged(self, wider_lot, question, lot)
            expected = own_least_fillings(question, worths_in(lot), 1)
            expected = [(fact, wider) for fact, wider in expected if set(lot) <= set(wider)]
            if couple is None:
                self.assertEqual(expected, [])
                found["none"] += 1
                continue
            self.assertTrue(expected and is_plain(couple))
            fact, wider = couple
            self.assertEqual(wider, tuple(sorted(set(wider))))
            self.assertIn(fact, own_least_facts(question, wider))
            self.assertLessEqual(set(lot), set(wider))
            found["same" if lot == wider else "wider"] += 1
        self.assertGreater(min(found.values()), 10, found)

    def test_spread_out(self):
        draw = drawing(379)
        for _ in range(60):
            tables = draw.choice(((1, 1), (2,), (2, 1), (3, 1, 2)))
            rows = sorted({drawn_row(draw, tables, (0, 1, 2, 3)) for _ in range(9)})
            lot = tuple(sorted(draw.sample(rows, min(len(rows), draw.randint(2, 5)))))
            dealing = unchanged(self, spread_out, tables, lot)
            self.assertEqual(dealing, Dealing(
                tables, len(lot), 1, [(house, table, ((0,),) * width) for house in range(len(lot)) for table, width in enumerate(tables)],
                [(row, tuple(house for house in range(len(lot)) if house != place)) for place, row in enumerate(lot)]))
            for many in range(4):
                some = tuple(sorted(draw.sample(rows, min(many, len(rows)))))
                self.assertEqual(common_homes(dealing, some) != (), not set(lot) <= set(some))
            self.assertEqual(common_homes(dealing, lot), ())
            self.assertEqual(common_homes(dealing, rows), ())
        for lot in ((), ((0, (1,)),), tuple((0, (worth,)) for worth in range(6)), [], [(0, (1,))]):
            refuses(self, FewRows, {}, spread_out, (1, 1), lot)

    def test_carried_fault_against_all_typical_fillings(self):
        draw = drawing(380)
        found = {"none": 0, "carry": 0}
        for _ in range(260):
            tables = draw.choice(((1,), (1, 1), (2,), (2, 1)))
            one, other = drawn_question(draw, tables, most=2), drawn_question(draw, tables, most=2)
            other = narrower(draw, one) if draw.random() < 0.6 else other
            carry = unchanged(self, carried_fault, one, other)
            lots = {lot for _, lot in own_least_fillings(other, one.constants, 1) if len(lot) > 1}
            expected = [lot for lot in lots if not any(
                set(lot) <= set(wider) for _, wider in own_least_fillings(one, worths_in(lot), 1))]
            if carry is None:
                self.assertEqual(expected, [])
                found["none"] += bool(lots)
                # What is right for the one is right for the other.
                for _ in range(4):
                    dealing = scattered_dealing(draw, tables, (0, 1))
                    if unmet_lot(one, dealing) is None:
                        self.assertIsNone(unmet_lot(other, dealing))
            else:
                self.assertTrue(expected)
                self.judge(one, other, carry)
                found["carry"] += 1
        self.assertGreater(min(found.values()), 10, found)

    def judge(self, one, other, carry):
        """The lot is a least one of the other question, and the dealing tells the two apart."""
        self.assertGreater(len(carry.lot), 1)
        self.assertEqual(carry.lot, tuple(sorted(set(carry.lot))))
        self.assertTrue(own_least_facts(other, carry.lot))
        self.assertIsNone(wider_lot(one, carry.lot))
        self.assertEqual(carry.dealing, spread_out(one.tables, carry.lot))
        self.assertIsNone(unmet_lot(one, carry.dealing))
        self.assertEqual(common_homes(carry.dealing, carry.lot), ())
        self.assertIsNotNone(unmet_lot(other, carry.dealing))

    def test_errors_in_their_order(self):
        wide = Question((2,), [("answer", (), [("row", 0, ("x", "y"))])])
        for wrong in OTHERS:
            for question in (SINGLE, wide, NOT):
                refuses(self, NotOfRows, {}, carried_fault, wrong, question)
                refuses(self, NotOfRows, {}, carried_fault, question, wrong)
        refuses(self, UnlikeTables, {}, carried_fault, SINGLE, wide)
        refuses(self, UnlikeTables, {}, carried_fault, wide, SINGLE)
        # The first one is looked at first, whatever the other is.
        refuses(self, NotOfRows, {}, carried_fault, NOT, None)

    def test_the_examples(self):
        self.assertEqual(least_facts(TWICE, ((0, (1, 2)), (0, (1, 3)))), ())
        self.assertEqual(least_facts(TWICE, ((0, (1, 2)),)), (("answer", (1,)),))
        draw = drawing(381)
        for _ in range(30):
            self.assertIsNone(unmet_lot(TWICE, small_dealing(draw, (2, 2))))
        self.assertEqual(least_facts(JOINED, ((0, (4, 5)), (1, (5, 6)))), (("answer", (4, 6)),))
        both = (0, 1)
        dealing = Dealing((2, 2), 2, 2, [(house, table, (both, (house,)) if table == 0 else ((house,), both))
                                         for house in both for table in both])
        self.assertIsNone(unmet_lot(JOINED, dealing))
        self.assertIsNone(unmet_lot(BACK, dealing))
        turned = Dealing((2, 2), 2, 2, [(house, table, ((house,), both)) for house in both for table in both])
        self.assertIsNotNone(unmet_lot(JOINED, turned))
        self.assertIsNone(carried_fault(JOINED, BACK))
        carry = carried_fault(BACK, JOINED)
        self.judge(BACK, JOINED, carry)
        self.assertIsNone(wider_lot(BACK, ((0, (0, 1)), (1, (1, 2)))))
        self.assertEqual(wider_lot(BACK, ((0, (0, 1)),)), (("answer", (0,)), ((0, (0, 1)), (1, (1, 0)))))

    def test_the_bounds_in_seconds(self):
        begin = time.process_time()

        def row(table, *terms):
            return "row", table, terms
        tables = (3, 2, 1)
        rules = [("answer", ("x",), [row(0, "x", "y", "z"), row(0, "y", "z", "x"), row(1, "x", "y"), row(1, "y", "z"), row(2, "z")]),
                 ("answer", ("y",), [row(0, "x", "y", 1), row(0, "y", "z", "x"), row(1, "x", "y"), row(1, "y", "z"), row(2, "x")]),
                 ("answer", ("z",), [row(1, "x", "y"), row(1, "y", "z"), row(1, "z", "x"), row(2, "x"), row(2, 2)]),
                 ("answer", ("x",), [row(0, "x", "y", "z"), row(0, "z", "y", "x"), row(1, 3, "y"), row(1, "y", "z"), row(2, "z")]),
                 ("answer", ("x",), [row(0, "x", "x", "z"), row(0, "z", "y", "x"), row(1, "z", "y"), row(1, "y", "z"),
                                     ("unlike", "x", "z")]),
                 ("answer", ("z",), [row(0, "x", "y", "z"), row(0, "z", "x", "x"), row(1, "z", "y"), row(1, "y", "x"), row(1, "x", "x")])]
        question, other = Question(tables, rules), Question(tables, [rules[2], rules[0], rules[4]])
        self.assertGreater(len(least_fillings(question, (7,), 3)), 1000)
        self.assertIsNone(carried_fault(question, question))
        # Rules beside the same ones make some lots more than least.
        self.judge(question, other, carried_fault(question, other))
        self.judge(other, question, carried_fault(other, question))
        whole = Dealing(tables, 5, 3, [(house, table, ((0, 1, 2),) * width) for house in range(5) for table, width in enumerate(tables)])
        self.assertIsNone(unmet_lot(question, whole))
        # Four of five tables' worth of homes: some lot is not met.
        self.assertIsNotNone(unmet_lot(question, Dealing(tables, 2, 3, [
            (0, 0, ((0, 1, 2),) * 3), (1, 1, ((0, 1, 2),) * 2), (0, 2, ((0, 1, 2),)), (1, 0, ((0,), (0,), (0,)))])))
        for lot in ((), ((0, (1, 2, 3)),), ((1, (5, 6)), (2, (6,)))):
            self.assertIsNotNone(wider_lot(question, lot))
        self.assertLess(time.process_time() - begin, 30)

    def test_results(self):
        carry = Carry((), one_house((1,)))
        self.assertEqual((carry.lot, carry.dealing), ((), one_house((1,))))
        self.assertEqual(carry, Carry((), one_house((1,))))
        for unlike in (Carry(((0, (1,)),), one_house((1,))), Carry((), one_house((1, 1))), None, ((), one_house((1,)))):
            self.assertFalse(carry == unlike)


if __name__ == "__main__":
    unittest.main()
