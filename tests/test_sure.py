"""Promises 8.1 to 8.7: verdicts."""

import time
import unittest

from soonestsaid.dealings import Dealing
from soonestsaid.meaning import answers_of, basis_derivation, told_facts
from soonestsaid.questions import Question
from soonestsaid.sure import Foil, Sure, find_verdict, heard_of, is_sure, sure_answers
from soonestsaid.views import View
from soonestsaid.wholes import Whole
from tests.helpers import drawing, drawn_rows, is_plain, unchanged
from tests.judging import enough_worths, first_world, is_paper, is_told_always, leaves, open_ones, shaky_rules
from tests.worlds import FAR, one_house, played_wholes, small_dealing, small_view

ALONE = ("answer", ("x",), (("row", 0, ("x",)), ("not", 1, ("x",))))
BESIDE = ("answer", ("x",), (("row", 0, ("x",)), ("row", 1, ("x",))))
NOBODY = ("answer", ("x",), (("row", 0, ("x",)), ("none", (1, (-1,)))))
FOURTH = ("answer", ("x",), (("row", 0, ("x",)), ("row", 1, (4,))))
SOMEBODY = ("answer", ("x",), (("row", 0, ("x",)), ("row", 1, ("y",))))


def drawn_case(draw, tables, rows=9, most_modulus=2):
    """A question, a view, a fact, and so few open rows over enough worths that all inputs can be tried."""
    while True:
        question = Question(tables, shaky_rules(draw, tables, draw.random() < 0.7))
        view = small_view(draw, tables, (0, 1), 12, most_modulus=most_modulus, most_houses=2, most_exceptions=1)
        facts = told_facts(question, view.rows)
        fact = draw.choice((*facts, ("answer", (0,)), ("nobody", (0,))))
        world = first_world(question, view.dealing, view.wholes, fact)
        # What is not told yet, or told without any open condition, is too many of all facts.
        if (fact not in facts or basis_derivation(question, world, fact) is not None) and draw.random() < 0.95:
            continue
        found = open_ones(world, enough_worths(question, world))
        if 0 < len(found) <= rows:
            return question, view, fact, world, found


class VerdictTest(unittest.TestCase):
    def check(self, question, view, fact):
        """The verdict, when it was judged."""
        verdict = unchanged(self, find_verdict, question, view, fact)
        self.assertIs(is_sure(question, view, fact), isinstance(verdict, Sure))
        if isinstance(verdict, Sure):
            self.assertTrue(is_plain(verdict.paper))
            self.assertTrue(is_paper(question, view, fact, verdict.paper), (question.rules, verdict.paper))
        else:
            self.assertIsInstance(verdict, Foil)
            self.assertTrue(is_plain(verdict.rows))
            self.assertEqual(verdict.rows, tuple(sorted(set(verdict.rows))))
            self.assertIs(view.lets(verdict.rows), True)
            self.assertNotIn(fact, told_facts(question, verdict.rows))
            self.assertLessEqual(set(view.rows), set(verdict.rows))
        return verdict

    def test_against_all_inputs(self):
        draw = drawing(151)
        sure = foils = parted = 0
        for tables, many in (((1,), 150), ((1, 1), 200), ((2,), 100), ((1, 2), 50)):
            for _ in range(many):
                question, view, fact, world, rows = drawn_case(draw, tables)
                verdict = self.check(question, view, fact)
                expected = is_told_always(question, world, rows, fact)
                self.assertIs(isinstance(verdict, Sure), expected, (question.rules, view.wholes, fact))
                if not expected:
                    foils += fact in told_facts(question, view.rows)
                else:
                    sure += 1
                    parted += verdict.paper[1][0] != "told"
        self.assertGreater(min(sure, foils, parted), 50, (sure, foils, parted))

    def test_many_papers_and_foils(self):
        draw = drawing(152)
        found = {"told": 0, "row": 0, "none": 0, "foil": 0}
        for _ in range(800):
            tables = draw.choice(((1,), (1, 1), (2, 1), (1, 1, 1)))
            question = Question(tables, shaky_rules(draw, tables, True, 4))
            view = small_view(draw, tables, (0, 1, 2), 7, seals=0.1)
            for fact in told_facts(question, view.rows)[:3]:
                verdict = self.check(question, view, fact)
                if isinstance(verdict, Sure):
                    found[verdict.paper[1][0]] += 1
                    for _ in range(10):
                        rows = sorted({*view.rows, *drawn_rows(draw, tables, (0, 1, 2, 3, 4, FAR), 4)})
                        if view.lets(rows):
                            self.assertIn(fact, told_facts(question, rows))
                else:
                    found["foil"] += 1
        self.assertGreater(min(found.values()), 10, found)

    def test_facts_that_no_rule_tells(self):
        question = Question((1, 1), [ALONE, ("answer", ("x",), [("row", 0, ("x",)), ("told", "ghost", ("x",))])])
        view = View(one_house((1, 1)), [(0, Whole([(0, (1,))], [(1, (-1,))]))])
        for fact in (("ghost", (1,)), ("nobody", ()), ("answer", (1, 1)), ("answer", ()), ("answer", (2,))):
            self.assertEqual(self.check(question, view, fact), Foil(((0, (1,)),)))
        self.assertIsInstance(self.check(question, view, ("answer", (1,))), Sure)

    def test_the_views_own_rows_are_a_foil(self):
        question = Question((1, 1), [ALONE])
        view = View(one_house((1, 1)), [(0, Whole([(0, (1,)), (1, (1,)), (0, (2,))]))])
        # What is not told now may be told of no further rows, or of others.
        for fact in (("answer", (1,)), ("answer", (3,))):
            self.assertEqual(self.check(question, view, fact), Foil(view.rows))
        self.assertEqual(self.check(question, view, ("answer", (2,))), Foil((*view.rows, (1, (2,)))))

    def test_opposite_rules(self):
        view = View(one_house((1, 1)), [(0, Whole([(0, (1,))]))])
        for rules, expected in (([ALONE], False), ([ALONE, BESIDE], True), ([NOBODY], False), ([NOBODY, SOMEBODY], True),
                                ([NOBODY, BESIDE], False), ([ALONE, SOMEBODY], True), ([NOBODY, ALONE], False)):
            for order in (rules, rules[::-1]):
                self.assertIs(is_sure(Question((1, 1), order), view, ("answer", (1,))), expected)
                self.check(Question((1, 1), order), view, ("answer", (1,)))

    def test_rules_that_call_themselves(self):
        # A way leads on over each place, whether or not it is barred.
        rules = [("answer", ("x",), [("told", "at", ("x",))]), ("at", (0,), []),
                 ("at", ("y",), [("told", "at", ("x",)), ("row", 0, ("x", "y")), ("not", 1, ("y",))]),
                 ("at", ("y",), [("told", "at", ("x",)), ("row", 0, ("x", "y")), ("row", 1, ("y",))])]
        view = View(one_house((2, 1)), [(0, Whole([(0, (0, 1)), (0, (1, 2)), (0, (2, 0)), (0, (4, 5))]))])
        both, alone = Question((2, 1), rules), Question((2, 1), rules[:3])
        self.assertEqual(sure_answers(both, view), (("answer", (0,)), ("answer", (1,)), ("answer", (2,))))
        self.assertEqual(sure_answers(alone, view), (("answer", (0,)),))
        self.assertIsInstance(self.check(both, view, ("answer", (2,))), Sure)
        self.assertIsInstance(self.check(alone, view, ("answer", (2,))), Foil)

    def test_new_worths(self):
        # Two unlike rows, or one, or none: each input has an answer, but there are new worths to think of.
        rules = [("answer", (), [("none", (0, (-1,)))]), ("answer", (), [("row", 0, ("x",)), ("row", 0, ("y",)),
                 ("unlike", "x", "y")]), ("answer", (), [("row", 0, ("x",)), ("not", 0, (5,))]),
                 ("answer", (), [("row", 0, (5,))])]
        for modulus in (1, 2, 3):
            view = View(one_house((1,), modulus))
            verdict = self.check(Question((1,), rules), view, ("answer", ()))
            self.assertIsInstance(verdict, Sure)
            verdict = self.check(Question((1,), rules[:3]), view, ("answer", ()))
            self.assertEqual(verdict, Foil(((0, (5,)),)))
            self.assertIsInstance(self.check(Question((1,), rules[:2]), view, ("answer", ())), Foil)

    def test_equal(self):
        for made, name in ((Sure, "paper"), (Foil, "rows")):
            self.assertEqual(made((1, 2)), made((1, 2)))
            self.assertEqual(getattr(made([1]), name), [1])
            for unlike in (made((1,)), (1, 2), None, Sure((1, 2)) if made is Foil else Foil((1, 2))):
                self.assertFalse(made((1, 2)) == unlike)


class HeardTest(unittest.TestCase):
    def test_heard(self):
        draw = drawing(153)
        for _ in range(100):
            view = small_view(draw, (1, 2))
            self.assertEqual(unchanged(self, heard_of, view),
                             tuple((house, whole.rows, whole.seals) for house, whole in view.wholes))
        self.assertEqual(heard_of(View(one_house((1,)))), ())
        dealing = Dealing((1,), 2, 1, [(0, 0, [(0,)]), (1, 0, [(0,)])])
        view = View(dealing, [(0, Whole()), (1, Whole([(0, (5,)), (0, (1,))], [(0, (-1,))]))])
        self.assertEqual(heard_of(view), ((1, ((0, (1,)), (0, (5,))), ((0, (-1,)),)),))


class SureAnswersTest(unittest.TestCase):
    def test_each_answer_by_itself(self):
        draw = drawing(154)
        some = 0
        for _ in range(400):
            tables = draw.choice(((1,), (1, 1), (2, 1)))
            question = Question(tables, shaky_rules(draw, tables, draw.random() < 0.2))
            view = small_view(draw, tables, (0, 1, 2), 8, seals=0.2)
            if draw.random() < 0.5:
                # Some of many answers are sure.
                question = Question((1, 1), draw.choice(([ALONE], [ALONE, NOBODY], [NOBODY, BESIDE], [ALONE, FOURTH])))
                view = small_view(draw, (1, 1), (0, 1, 2, 3, 4), 16, seals=0.4)
            found = unchanged(self, sure_answers, question, view)
            answers = answers_of(question, view.rows)
            self.assertEqual(found, tuple(fact for fact in answers if is_sure(question, view, fact)))
            for fact in [("answer", (0,)), ("answer", (1, 1)), ("answer", ())]:
                if fact not in answers:
                    self.assertFalse(is_sure(question, view, fact))
            some += found not in ((), answers)
        self.assertGreater(some, 4)

    def test_what_is_sure_stays_sure(self):
        draw = drawing(155)
        more = 0
        for _ in range(80):
            tables = draw.choice(((1, 1), (2, 1)))
            question = Question(tables, shaky_rules(draw, tables, False, 4))
            dealing = small_dealing(draw, tables)
            seed = draw.randrange(10 ** 6)
            # The same course, heard of longer and longer.
            views = [View(dealing, list(enumerate(played_wholes(drawing(seed), dealing, (0, 1, 2), deeds, heard=1))))
                     for deeds in range(1, 14, 3)]
            before = ()
            for one, view in zip([View(dealing), *views], views):
                self.assertTrue(view.widens(one))
                found = sure_answers(question, view)
                self.assertLessEqual(set(before), set(found))
                more += len(found) > len(before)
                before = found
        self.assertGreater(more, 10)

    def test_settled_views(self):
        draw = drawing(156)
        told = 0
        for _ in range(400):
            tables = draw.choice(((1, 1), (2, 1), (1,)))
            question = Question(tables, shaky_rules(draw, tables, False, 4))
            view = small_view(draw, tables, (0, 1, 2), 8)
            end = view.ended(view.rows)
            self.assertIsNone(end.settled())
            self.assertEqual(sure_answers(question, end), answers_of(question, view.rows))
            self.assertLessEqual(set(sure_answers(question, view)), set(answers_of(question, view.rows)))
            told += len(answers_of(question, view.rows))
        self.assertGreater(told, 40)

    def test_the_example(self):
        view = View(one_house((1, 1)), [(0, Whole([(0, (7,)), (0, (8,))], [(1, (8,))]))])
        question = Question((1, 1), [ALONE])
        self.assertEqual(sure_answers(question, view), (("answer", (8,)),))
        self.assertEqual(find_verdict(question, view, ("answer", (8,))).paper[1], ("told", ((0, (8,)),)))
        self.assertEqual(find_verdict(question, view, ("answer", (7,))), Foil(((0, (7,)), (0, (8,)), (1, (7,)))))
        question = Question((1, 1), [ALONE, BESIDE])
        tree = ("row", (1, (7,)), ("told", ((0, (7,)),)), ("told", ((1, (7,)),)))
        self.assertEqual(find_verdict(question, view, ("answer", (7,))), Sure((heard_of(view), tree)))


class BoundsTest(unittest.TestCase):
    def test_some_hundred_leaves_in_seconds(self):
        begin = time.process_time()
        rules = [("answer", ("x",), [("told", "at", ("x",))]), ("at", (0,), []),
                 ("at", ("y",), [("told", "at", ("x",)), ("row", 0, ("x", "y")), ("not", 1, ("y",))]),
                 ("at", ("y",), [("told", "at", ("x",)), ("row", 0, ("x", "y")), ("row", 1, ("y",))])]
        rows = [(0, (at, at + 1)) for at in range(11)] + [(0, (11, 0))]
        view = View(one_house((2, 1), 2), [(0, Whole(rows, [(1, (at,)) for at in (8, 9, 10, 11)]))])
        verdict = find_verdict(Question((2, 1), rules), view, ("answer", (8,)))
        self.assertTrue(128 <= leaves(verdict.paper[1]) < 500)
        rules = [("answer", (), [("none", (0, (-1, -1))), ("none", (1, (3,)))]), ("answer", (), [("row", 1, (3,))]),
                 ("answer", (), [("row", 0, ("x", "y"))])]
        view = View(one_house((2, 1, 1)), [(0, Whole([(2, (at,)) for at in range(11)], []))])
        verdict = find_verdict(Question((2, 1, 1), rules), view, ("answer", ()))
        self.assertTrue(100 < leaves(verdict.paper[1]) < 500)
        # Many answers, each with a foil.
        rules = [("answer", ("x", "z"), [("row", 0, ("x", "y")), ("row", 0, ("y", "z")), ("none", (1, (-1,)))])]
        rows = [(0, (one, other)) for one in range(6) for other in range(6)]
        view = View(one_house((2, 1)), [(0, Whole(rows))])
        self.assertEqual(sure_answers(Question((2, 1), rules), view), ())
        # Some 80 partings on a way, with and without an end.
        rules = [("answer", (), [("row", 0, ("x",)), ("not", 1, ("x",))]),
                 ("answer", (), [("row", 1, (at,)) for at in range(75, 80)])]
        view = View(one_house((1, 1)), [(0, Whole([(0, (at,)) for at in range(80)]))])
        verdict = find_verdict(Question((1, 1), rules), view, ("answer", ()))
        self.assertTrue(6 <= leaves(verdict.paper[1]) <= 81)
        verdict = find_verdict(Question((1, 1), rules[:1]), view, ("answer", ()))
        self.assertEqual(len(verdict.rows), 160)
        self.assertLess(time.process_time() - begin, 20)


if __name__ == "__main__":
    unittest.main()
