"""Promises 3.5 to 3.7: fillings."""

import itertools
import unittest

from soonestsaid.fillings import Ground, find_fillings, frozen_fillings, ground
from soonestsaid.questions import Question, variables_of
from tests.helpers import drawing, drawn_row, drawn_rows, drawn_rules, is_plain, shuffled, unchanged

FAR = 10 ** 60
PARTS = ("head", "rows", "facts", "nots", "nones", "fits")


def put_in(terms, names):
    return tuple(names[term] if isinstance(term, str) else term for term in terms)


def parts_of(rule, filling):
    """A Ground's parts, told from the rule's own conditions."""
    names = dict(zip(variables_of(rule), filling))
    conditions = rule[2]
    return (
        (rule[0], put_in(rule[1], names)),
        tuple((c[1], put_in(c[2], names)) for c in conditions if c[0] == "row"),
        tuple((c[1], put_in(c[2], names)) for c in conditions if c[0] == "told"),
        tuple((c[1], put_in(c[2], names)) for c in conditions if c[0] == "not"),
        tuple(c[1] for c in conditions if c[0] == "none"),
        all(len(set(put_in(c[1:], names))) == 2 for c in conditions if c[0] == "unlike"))


class GroundTest(unittest.TestCase):
    def test_part_by_part(self):
        rule = ("answer", ("y", 7, "x"), (
            ("row", 1, ("x", "y")), ("told", "pair", ("y", 3, "x")), ("not", 0, ("y",)), ("none", (0, (-1,))),
            ("unlike", "x", "y")))
        question = Question((1, 2), [("pair", (1, 2, 3), ()), rule])
        found = unchanged(self, ground, question, 1, (4, FAR))
        self.assertIsInstance(found, Ground)
        self.assertEqual(found.head, ("answer", (FAR, 7, 4)))
        self.assertEqual(found.rows, ((1, (4, FAR)),))
        self.assertEqual(found.facts, (("pair", (FAR, 3, 4)),))
        self.assertEqual(found.nots, ((0, (FAR,)),))
        self.assertEqual(found.nones, ((0, (-1,)),))
        self.assertIs(found.fits, True)
        self.assertIs(ground(question, 1, (4, 4)).fits, False)

    def test_doubles_stay_in_order(self):
        rule = ("answer", (), (
            ("row", 0, ("x",)), ("row", 1, ("y", "x")), ("row", 0, ("y",)), ("told", "answer", ()), ("told", "answer", ())))
        found = ground(Question((1, 2), [rule]), 0, (5, 5))
        self.assertEqual(found.rows, ((0, (5,)), (1, (5, 5)), (0, (5,))))
        self.assertEqual(found.facts, (("answer", ()), ("answer", ())))
        rule = ("answer", (), (
            ("not", 0, (8,)), ("none", (1, (-1, 2))), ("not", 0, (3,)), ("none", (0, (-1,))), ("none", (1, (-1, 2)))))
        found = ground(Question((1, 2), [rule]), 0, ())
        self.assertEqual((found.nots, found.nones),
                         (((0, (8,)), (0, (3,))), ((1, (-1, 2)), (0, (-1,)), (1, (-1, 2)))))
        self.assertIs(found.fits, True)

    def test_fits(self):
        rule = ("answer", (), (("row", 1, ("x", "y")), ("unlike", "x", 3), ("unlike", "y", "x"), ("unlike", 1, 2)))
        question = Question((1, 2), [rule, ("answer", (), (("unlike", 4, 4),)), ("answer", (), (("unlike", 4, 5),))])
        for filling, fits in (((1, 2), True), ((3, 2), False), ((2, 3), True), ((2, 2), False), ((3, 3), False)):
            self.assertIs(ground(question, 0, filling).fits, fits)
        self.assertIs(ground(question, 1, ()).fits, False)
        self.assertIs(ground(question, 2, ()).fits, True)

    def test_when_drawn(self):
        draw = drawing(51)
        for _ in range(200):
            tables = tuple(draw.randint(1, 3) for _ in range(draw.randint(1, 3)))
            question = Question(tables, drawn_rules(draw, tables))
            for number, rule in enumerate(question.rules):
                filling = tuple(draw.choice((0, 1, 2, FAR)) for _ in variables_of(rule))
                found = unchanged(self, ground, question, number, filling)
                parts = tuple(getattr(found, name) for name in PARTS)
                self.assertEqual(parts, parts_of(rule, filling))
                self.assertTrue(is_plain(parts))

    def test_keeps_what_it_is_given(self):
        given = [["any"], [1], None, "no", {}, 7]
        found = Ground(*given)
        for name, thing in zip(PARTS, given):
            self.assertIs(getattr(found, name), thing)

    def test_equal(self):
        parts = (("a", ()), ((0, (1,)),), (), (), (), True)
        self.assertTrue(Ground(*parts) == Ground(*parts))
        self.assertFalse(Ground(*parts) != Ground(*parts))
        for at in range(6):
            other = [*parts]
            other[at] = "other"
            self.assertTrue(Ground(*parts) != Ground(*other))
            self.assertFalse(Ground(*parts) == Ground(*other))
        self.assertFalse(Ground(*parts) == parts)
        self.assertTrue(Ground(*parts) != parts)
        self.assertTrue(Ground(*parts) != None)  # noqa: E711


def all_fillings(question, number, rows, facts, worths):
    found = []
    rule = question.rules[number]
    for filling in itertools.product(sorted(worths), repeat=len(variables_of(rule))):
        _, own_rows, own_facts, _, _, fits = parts_of(rule, filling)
        if fits and set(own_rows) <= set(rows) and set(own_facts) <= set(facts):
            found.append(filling)
    return tuple(found)


class FindFillingsTest(unittest.TestCase):
    def test_against_all_fillings(self):
        draw = drawing(52)
        many = 0
        for _ in range(400):
            tables = tuple(draw.randint(1, 3) for _ in range(draw.randint(1, 3)))
            question = Question(tables, drawn_rules(draw, tables, constants=(0, 7)))
            worths = (0, 1, 2, FAR)
            rows = {drawn_row(draw, tables, worths[:3]) for _ in range(draw.randint(0, 12))}
            widths = {name: len(terms) for rule in question.rules for word, name, *terms in [
                (None, rule[0], *rule[1]), *[(c[0], c[1], *c[2]) for c in rule[2] if c[0] == "told"]]}
            facts = set()
            for _ in range(draw.randint(0, 10)):
                name = draw.choice(sorted(widths))
                facts.add((name, tuple(draw.choice(worths) for _ in range(widths[name]))))
            for number in range(len(question.rules)):
                expected = all_fillings(question, number, rows, facts, {*worths, 7})
                given = shuffled(draw, sorted(rows)), shuffled(draw, sorted(facts))
                found = unchanged(self, find_fillings, question, number, *given)
                self.assertEqual(found, expected, question.rules[number])
                self.assertTrue(is_plain(found))
                self.assertEqual(find_fillings(question, number, tuple(given[0]), tuple(given[1])), expected)
                if not facts:
                    self.assertEqual(find_fillings(question, number, given[0]), expected)
                many += len(expected)
        self.assertGreater(many, 1000)

    def test_facts_left_out_are_none(self):
        question = Question((1,), [("answer", ("x",), (("told", "answer", ("x",)),)), ("answer", ("x",), (("row", 0, ("x",)),))])
        self.assertEqual(find_fillings(question, 0, [(0, (1,))]), ())
        self.assertEqual(find_fillings(question, 0, [], [("answer", (3,)), ("answer", (3,))]), ((3,),))
        self.assertEqual(find_fillings(question, 1, [(0, (3,)), (0, (1,)), (0, (3,))]), ((1,), (3,)))

    def test_not_and_none_are_not_asked(self):
        rule = ("answer", ("x",), (("row", 0, ("x",)), ("not", 0, ("x",)), ("none", (0, (-1,)))))
        self.assertEqual(find_fillings(Question((1,), [rule]), 0, [(0, (FAR,))]), ((FAR,),))

    def test_without_variables(self):
        rules = [("answer", (), ()), ("answer", (), (("row", 0, (4,)),)), ("answer", (), (("unlike", 4, 4),)),
                 ("answer", (), (("told", "answer", ()), ("not", 0, (4,)), ("unlike", 3, 4)))]
        question = Question((1,), rules)
        self.assertEqual(find_fillings(question, 0, ()), ((),))
        self.assertEqual(find_fillings(question, 1, ()), ())
        self.assertEqual(find_fillings(question, 1, [(0, (4,)), (0, (5,))]), ((),))
        self.assertEqual(find_fillings(question, 2, [(0, (4,))]), ())
        self.assertEqual(find_fillings(question, 3, ()), ())
        self.assertEqual(find_fillings(question, 3, (), [("answer", ())]), ((),))

    def test_many_facts(self):
        facts = [("pair", (x, y)) for x in range(10) for y in range(10)]
        rule = ("answer", (), tuple(("told", "pair", (x, y)) for x, y in ("xy", "yz", "zw", "wx", "xz")))
        question = Question((1,), [rule])
        self.assertEqual(len(find_fillings(question, 0, (), facts)), 10 ** 4)


def kind_of(filling, constants):
    """Tells one kind of fillings from the others."""
    return (tuple(worth if worth in constants else None for worth in filling),
            tuple(filling.index(worth) for worth in filling))


class FrozenTest(unittest.TestCase):
    def check(self, question, number, more, draw):
        constants = sorted({*question.constants, *more})
        rule = question.rules[number]
        found = unchanged(self, frozen_fillings, question, number, shuffled(draw, more))
        self.assertEqual(found, tuple(sorted(set(found))))
        self.assertTrue(is_plain(found))
        first = max(constants, default=-1) + 1
        for filling in found:
            self.assertIs(ground(question, number, filling).fits, True)
            news = list(dict.fromkeys(worth for worth in filling if worth not in constants))
            self.assertEqual(news, list(range(first, first + len(news))))
        kinds = [kind_of(filling, constants) for filling in found]
        self.assertEqual(len(kinds), len(set(kinds)))
        many = len(variables_of(rule))
        for _ in range(30):
            drawn = tuple(draw.choice([*constants, 3, 5, FAR, FAR + 1, FAR + 2]) for _ in range(many))
            if ground(question, number, drawn).fits:
                self.assertEqual(kinds.count(kind_of(drawn, constants)), 1, (rule, drawn))

    def test_exactly_one_of_each_kind(self):
        draw = drawing(53)
        for _ in range(150):
            tables = tuple(draw.randint(1, 3) for _ in range(draw.randint(1, 3)))
            question = Question(tables, drawn_rules(draw, tables, constants=draw.choice(((0, 1), (4, 2), (FAR,)))))
            more = draw.sample((0, 2, 5, 9, FAR), draw.randint(0, 3))
            for number in range(len(question.rules)):
                self.check(question, number, more, draw)
                self.check(question, number, (), draw)

    def test_written_out(self):
        rule = ("answer", ("x",), (("row", 1, ("x", "y")),))
        question = Question((1, 2), [rule, ("answer", ("x",), (("row", 0, ("x",)), ("unlike", "x", "x")))])
        self.assertEqual(frozen_fillings(question, 0), ((0, 0), (0, 1)))
        self.assertEqual(frozen_fillings(question, 0, ()), ((0, 0), (0, 1)))
        self.assertEqual(frozen_fillings(question, 0, [4]), ((4, 4), (4, 5), (5, 4), (5, 5), (5, 6)))
        self.assertEqual(frozen_fillings(question, 0, [4, 4]), frozen_fillings(question, 0, (4,)))
        self.assertEqual(frozen_fillings(question, 0, (9, 4, 9))[:4], ((4, 4), (4, 9), (4, 10), (9, 4)))
        self.assertEqual(frozen_fillings(question, 1), ())

    def test_the_question_has_constants(self):
        rules = [("answer", ("x",), (("row", 0, ("x",)), ("unlike", "x", 3))), ("answer", (6,), ())]
        question = Question((1,), rules)
        self.assertEqual(frozen_fillings(question, 0), ((6,), (7,)))
        self.assertEqual(frozen_fillings(question, 0, [9]), ((6,), (9,), (10,)))
        question = Question((1,), [*rules, ("answer", (1,), (("none", (0, (8,))), ("none", (0, (-1,)))))])
        self.assertEqual(frozen_fillings(question, 0), ((1,), (6,), (8,), (9,)))

    def test_without_variables(self):
        question = Question((1,), [("answer", (3,), ()), ("answer", (3,), (("unlike", 2, 2),))])
        self.assertEqual(frozen_fillings(question, 0), ((),))
        self.assertEqual(frozen_fillings(question, 0, [7]), ((),))
        self.assertEqual(frozen_fillings(question, 1), ())

    def test_the_greatest_sizes(self):
        rule = ("answer", ("x",), (("row", 1, ("x", "y")), ("row", 1, ("z", "w"))))
        found = frozen_fillings(Question((1, 2), [rule]), 0, (0, 2, 4, 6, 8, 10))
        # The kinds of four places with 0 to 4 new worths: sums of Stirling numbers and powers of 6.
        self.assertEqual(len(found), 6 ** 4 + 4 * 6 ** 3 + 6 * 6 ** 2 * 2 + 4 * 6 * 5 + 15)


if __name__ == "__main__":
    unittest.main()
