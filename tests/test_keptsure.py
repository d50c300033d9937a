"""Promises 8.8 to 8.10: verdicts that are kept while a view grows."""

import unittest

from soonestsaid.judge import foil_fault, paper_fault
from soonestsaid.keptsure import Kept
from soonestsaid.meaning import answers_of
from soonestsaid.questions import Question
from soonestsaid.sure import Foil, Sure, find_verdict, heard_of, sure_answers
from soonestsaid.views import View
from soonestsaid.wholes import Whole
from tests.helpers import content, drawing, is_plain, unchanged
from tests.judging import shaky_rules
from tests.worlds import one_house, played_wholes, small_dealing

ALONE = ("answer", ("x",), (("row", 0, ("x",)), ("not", 1, ("x",))))
BESIDE = ("answer", ("x",), (("row", 0, ("x",)), ("row", 1, ("x",)), ("row", 1, (9,))))


def drawn_course(draw, tables):
    """Views over one dealing, each of which widens the one before."""
    dealing = small_dealing(draw, tables)
    seed, seals = draw.randrange(10 ** 6), draw.choice((0.2, 0.4))
    return [View(dealing, list(enumerate(played_wholes(drawing(seed), dealing, (0, 1, 2), deeds, seals, heard=1))))
            for deeds in sorted(draw.choice((0, 1, 2, 4, 6, 8, 11)) for _ in range(5))]


def one_view(rows=(), seals=()):
    return View(one_house((1, 1)), [(0, Whole(rows, seals))])


class LookTest(unittest.TestCase):
    def check(self, kept, question, view, before):
        """One look, when it was judged; before holds what stood there after the look before."""
        told, foils = before
        found = kept.look(view)
        self.assertEqual(kept.told, sure_answers(question, view))
        self.assertTrue(is_plain((found, kept.told, kept.foils)))
        self.assertEqual(tuple(answer for answer, _ in found), tuple(fact for fact in kept.told if fact not in told))
        for answer, paper in found:
            self.assertEqual(paper[0], heard_of(view))
            self.assertIsNone(paper_fault(question, view, answer, paper))
        left = tuple(answer for answer in answers_of(question, view.rows) if answer not in kept.told)
        self.assertEqual(tuple(answer for answer, _ in kept.foils), left)
        again = 0
        for answer, rows in kept.foils:
            self.assertIsNone(foil_fault(question, view, answer, rows))
            self.assertEqual(rows, tuple(sorted(set(rows))))
            if answer in dict(foils) and view.lets(dict(foils)[answer]):
                self.assertEqual(rows, dict(foils)[answer])
                again += 1
        return again

    def test_after_each_look(self):
        draw = drawing(171)
        told = again = 0
        for _ in range(200):
            tables = draw.choice(((1,), (1, 1), (2, 1)))
            question = Question(tables, shaky_rules(draw, tables, draw.random() < 0.3, constants=(0, 1)))
            kept = unchanged(self, Kept, question)
            self.assertIs(kept.question, question)
            self.assertEqual((kept.told, kept.foils), ((), ()))
            for view in drawn_course(draw, tables):
                again += self.check(kept, question, view, (kept.told, kept.foils))
                before = content(view)
                self.assertEqual(kept.look(view), ())
                self.assertEqual(content(view), before)
            told += len(kept.told)
        self.assertGreater(min(told, again), 10)

    def test_a_foil_stands_again(self):
        question = Question((1, 1), [ALONE])
        kept = Kept(question)
        kept.look(one_view([(0, (7,)), (0, (8,))]))
        self.assertEqual([answer for answer, _ in kept.foils], [("answer", (7,)), ("answer", (8,))])
        before = dict(kept.foils)
        # The seal of (1, (8,)) spares the foil of 7 unless that has this row.
        kept.look(one_view([(0, (7,)), (0, (8,))], [(1, (8,))]))
        self.assertEqual(kept.told, (("answer", (8,)),))
        self.assertEqual([answer for answer, _ in kept.foils], [("answer", (7,))])
        if (1, (8,)) not in before[("answer", (7,))]:
            self.assertEqual(dict(kept.foils)[("answer", (7,))], before[("answer", (7,))])

    def test_a_foil_stands_again_though_another_would_be_found(self):
        question = Question((1, 1), [("answer", ("x",), [("row", 0, ("x",)), ("none", (1, (-1,)))])])
        kept = Kept(question)
        seven = ("answer", (7,))
        kept.look(one_view([(0, (7,))]))
        ((answer, rows),) = kept.foils
        self.assertEqual(answer, seven)
        # Each further seal makes a worth known, but leaves the foil let.
        worth = max(worth for _, worths in rows for worth in worths)
        seals = [(1, (worth + more,)) for more in (1, 2, 40)]
        for many in (1, 2, 3):
            view = one_view([(0, (7,))], seals[:many])
            self.assertEqual(kept.ask(view, seven), Foil(rows))
            self.assertEqual(kept.look(view), ())
            self.assertEqual(kept.foils, ((seven, rows),))
            self.assertEqual(kept.ask(view, seven), Foil(rows))
        self.assertNotEqual(find_verdict(question, view, seven), Foil(rows))
        # When it is let no longer, another one stands there.
        view = one_view([(0, (7,))], [*seals, (1, (worth,))])
        self.assertNotEqual(kept.ask(view, seven), Foil(rows))
        kept.look(view)
        self.assertIsNone(foil_fault(question, view, *kept.foils[0]))

    def test_foils_are_ascending_whenever_they_were_found(self):
        question = Question((1, 1, 1), [
            ("answer", ("x",), [("row", 0, ("x",)), ("not", 1, ("x",))]),
            ("answer", ("x",), [("row", 0, ("x",)), ("row", 1, ("x",)), ("not", 2, ("x",))]),
            ("answer", (3,), [("row", 1, (8,)), ("not", 2, (9,))])])
        kept = Kept(question)
        rows = [(0, (8,)), (1, (8,))]
        kept.look(View(one_house((1, 1, 1)), [(0, Whole(rows[:1]))]))
        before = dict(kept.foils)
        self.assertEqual(before, {("answer", (8,)): ((0, (8,)), (1, (8,)), (2, (8,)))})
        kept.look(View(one_house((1, 1, 1)), [(0, Whole(rows))]))
        self.assertEqual([answer for answer, _ in kept.foils], [("answer", (3,)), ("answer", (8,))])
        self.assertEqual(dict(kept.foils)[("answer", (8,))], before[("answer", (8,))])

    def test_answers_that_go_and_come_back(self):
        question = Question((1, 1), [ALONE, BESIDE])
        kept = Kept(question)
        seven = ("answer", (7,))
        views = [one_view([(0, (7,))]), one_view([(0, (7,)), (1, (7,))]),
                 one_view([(0, (7,)), (1, (7,)), (1, (9,))])]
        self.assertEqual(kept.look(views[0]), ())
        self.assertEqual([answer for answer, _ in kept.foils], [seven])
        self.assertEqual(kept.look(views[1]), ())
        self.assertEqual((kept.told, kept.foils), ((), ()))
        ((answer, paper),) = kept.look(views[2])
        self.assertEqual((answer, kept.told, kept.foils), (seven, (seven,), ()))
        self.assertIsNone(paper_fault(question, views[2], seven, paper))
        # It may come back without being sure.
        question = Question((1, 1), [ALONE, (*BESIDE[:2], (*BESIDE[2], ("not", 0, (3,))))])
        kept = Kept(question)
        for view in views:
            kept.look(view)
        self.assertEqual((kept.told, [answer for answer, _ in kept.foils]), ((), [seven]))
        self.assertIsNone(foil_fault(question, views[2], *kept.foils[0]))

    def test_results_do_not_change(self):
        question = Question((1, 1), [ALONE])
        kept = Kept(question)
        kept.look(one_view([(0, (7,))]))
        told, foils = kept.told, kept.foils
        kept.look(one_view([(0, (7,))], [(1, (-1,))]))
        self.assertEqual((told, [answer for answer, _ in foils]), ((), [("answer", (7,))]))
        self.assertEqual((kept.told, kept.foils), ((("answer", (7,)),), ()))


class AskTest(unittest.TestCase):
    def test_every_kind_of_fact(self):
        draw = drawing(172)
        found = {"told": 0, "foil": 0, "gone": 0, "other": 0}
        for _ in range(120):
            tables = draw.choice(((1, 1), (2, 1)))
            question = Question(tables, shaky_rules(draw, tables, False, constants=(0, 1)))
            views = drawn_course(draw, tables)
            kept = Kept(question)
            papers = {}
            # Before the first look it finds each verdict.
            for fact in answers_of(question, views[0].rows):
                self.assertEqual(kept.ask(views[0], fact), find_verdict(question, views[0], fact))
            for at in range(len(views) - 1):
                papers.update(kept.look(views[at]))
                for view in views[at:at + 2]:
                    foils = dict(kept.foils)
                    for fact in [*answers_of(question, view.rows), ("pair", (0,)), ("nobody", ()), ("answer", (5,))]:
                        verdict = unchanged(self, kept.ask, view, fact)
                        if fact in papers:
                            self.assertEqual(verdict, Sure(papers[fact]))
                            found["told"] += 1
                        elif fact in foils and view.lets(foils[fact]):
                            self.assertEqual(verdict, Foil(foils[fact]))
                            found["foil"] += 1
                        else:
                            self.assertEqual(verdict, find_verdict(question, view, fact))
                            found["gone" if fact in foils else "other"] += 1
        self.assertGreater(min(found.values()), 5, found)

    def test_nothing_changes(self):
        question = Question((1, 1), [ALONE])
        kept = Kept(question)
        view = one_view([(0, (7,))], [(1, (-1,))])
        self.assertIsInstance(kept.ask(view, ("answer", (7,))), Sure)
        self.assertEqual((kept.told, kept.foils), ((), ()))
        self.assertIsInstance(kept.ask(one_view([(0, (7,))]), ("answer", (7,))), Foil)
        self.assertEqual((kept.told, kept.foils), ((), ()))
        kept.look(view)
        self.assertEqual(kept.told, (("answer", (7,)),))


if __name__ == "__main__":
    unittest.main()
