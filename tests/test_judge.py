"""Promises 9.1 to 9.8: judging papers and foils."""

import time
import unittest

from soonestsaid.dealings import Dealing
from soonestsaid.errors import BadPaper, BadRow, NotLet
from soonestsaid.judge import PaperFault, PaperWalk, foil_fault, leaf_places, paper_fault, walk_paper
from soonestsaid.meaning import answers_of, derivation_fault, told_facts
from soonestsaid.questions import Question
from soonestsaid.sure import Sure, find_verdict
from soonestsaid.views import View
from soonestsaid.wholes import Whole
from tests.helpers import as_lists, drawing, drawn_rows, is_plain, refuses, shuffled, unchanged
from tests.judging import enough_worths, first_world, is_told_always, leaves, open_ones, own_fault, own_leaves, own_walk
from tests.judging import shaky_rules, undone
from tests.worlds import FAR, one_house, played_wholes, small_dealing, small_view

ALONE = ("answer", ("x",), (("row", 0, ("x",)), ("not", 1, ("x",))))
BESIDE = ("answer", ("x",), (("row", 0, ("x",)), ("row", 1, ("x",))))
# House 0 has all rows of table 0, house 1 all rows of table 1.
DEALING = Dealing((1, 1), 2, 1, [(0, 0, [(0,)]), (1, 1, [(0,)])])
SEVEN = ("answer", (7,))
LEAF, OTHER = ("told", ((0, (7,)),)), ("told", ((1, (7,)),))
TREE = ("row", (1, (7,)), LEAF, OTHER)
HEARD = ((0, ((0, (7,)),), ()),)
BOTH = Question((1, 1), [ALONE, BESIDE])
VIEW = View(DEALING, [(0, Whole([(0, (7,))]))])


def drawn_paper(draw, tables, most_modulus=3, least=1):
    """A question, a view, a fact that is sure, and a paper with some leaves."""
    while True:
        question = Question(tables, shaky_rules(draw, tables, True))
        view = small_view(draw, tables, (0, 1, 2), 8, seals=draw.choice((0.1, 0.4)), most_modulus=most_modulus)
        for fact in told_facts(question, view.rows)[:3]:
            verdict = find_verdict(question, view, fact)
            if isinstance(verdict, Sure) and least <= leaves(verdict.paper[1]) < 60:
                if leaves(verdict.paper[1]) > 1 or draw.random() < 0.2:
                    return question, view, fact, verdict.paper


# In each of these some patterns are parted below one another, and each input has the answer.
DEEP = [Question((2, 1), rules) for rules in (
    [("answer", (), [("none", (0, (-1, -1)))]), ("answer", (), [("row", 0, ("x", "y")), ("none", (1, (-1,)))]),
     ("answer", (), [("row", 0, ("x", "y")), ("row", 1, ("z",)), ("not", 0, ("y", "x"))]),
     ("answer", (), [("row", 0, ("x", "y")), ("row", 1, ("z",)), ("row", 0, ("y", "x"))])],
    [("answer", (), [("told", "way", ("x",))]), ("way", (0,), [("none", (1, (-1,)))]), ("way", ("x",), [("row", 1, ("x",)),
     ("none", (0, (-1, 0)))]), ("way", ("y",), [("row", 1, ("x",)), ("row", 0, ("y", 0)), ("not", 1, ("y",))]),
     ("way", ("y",), [("row", 0, ("y", 0)), ("row", 1, ("y",))])])]


def deep_paper(draw):
    """A paper in which patterns are parted."""
    while True:
        question = draw.choice(DEEP)
        view = small_view(draw, (2, 1), (0, 1), draw.choice((0, 0, 1, 3)), most_exceptions=1)
        verdict = find_verdict(question, view, ("answer", ()))
        if verdict.paper[1][0] == "none":
            return question, view, ("answer", ()), verdict.paper


def mutated(draw, thing):
    """The thing with one part of it changed."""
    if isinstance(thing, int):
        return draw.choice((thing + 1, thing - 1, bool(thing), -1, FAR, 0, None, (thing,)))
    if isinstance(thing, str):
        return draw.choice(("told", "row", "none", "", None, 0))
    if not isinstance(thing, tuple):
        return draw.choice((None, (), 0))
    if draw.random() < 0.85 and thing:
        at = draw.randrange(len(thing))
        return (*thing[:at], mutated(draw, thing[at]), *thing[at + 1:])
    kind = draw.choice(("list", "drop", "double", "turn", "other"))
    if kind == "list":
        return list(thing)
    if not thing or kind == "other":
        return draw.choice(((), None, 3, "ab", [], {}, True, (1,), LEAF))
    at = draw.randrange(len(thing))
    if kind == "drop":
        return thing[:at] + thing[at + 1:]
    return thing[:at] + (thing[at],) + thing[at:] if kind == "double" else thing[::-1]


class PaperFaultTest(unittest.TestCase):
    def fault(self, expected, question, view, fact, paper):
        found = unchanged(self, paper_fault, question, view, fact, paper)
        if expected is None:
            self.assertIsNone(found, paper)
        else:
            self.assertEqual(found, PaperFault(*expected), (found and vars(found), paper))

    def test_papers_of_verdicts_are_right(self):
        draw = drawing(161)
        many = 0
        for _ in range(300):
            question, view, fact, paper = drawn_paper(draw, draw.choice(((1,), (1, 1), (2,), (2, 1))))
            self.fault(None, question, view, fact, paper)
            many += leaves(paper[1])
        self.assertGreater(many, 400)

    def test_papers_stay_right(self):
        draw = drawing(162)
        grown = 0
        for _ in range(150):
            tables = draw.choice(((1,), (1, 1), (2,)))
            question = Question(tables, shaky_rules(draw, tables, True))
            dealing = small_dealing(draw, tables)
            seed = draw.randrange(10 ** 6)
            views = [View(dealing, list(enumerate(played_wholes(drawing(seed), dealing, (0, 1, 2), deeds, 0.3, 1))))
                     for deeds in range(0, 12, 2)]
            papers = []
            for view in views:
                for fact, paper in papers:
                    self.fault(None, question, view, fact, paper)
                    grown += paper[0] != find_verdict(question, view, fact).paper[0]
                for fact in told_facts(question, view.rows)[:3]:
                    verdict = find_verdict(question, view, fact)
                    if isinstance(verdict, Sure):
                        papers.append((fact, verdict.paper))
        self.assertGreater(grown, 200)

    def test_against_another_judge(self):
        draw = drawing(163)
        found = {}
        for _ in range(250):
            question, view, fact, paper = drawn_paper(draw, draw.choice(((1,), (1, 1), (2,), (2, 1))))
            if draw.random() < 0.3:
                question, view, fact, paper = deep_paper(draw)
            for _ in range(16):
                wrong = mutated(draw, paper)
                if draw.random() < 0.3:
                    wrong = mutated(draw, wrong)
                if draw.random() < 0.7 and isinstance(wrong, tuple) and len(wrong) == 2:
                    # What was heard is at fault less often then.
                    wrong = (paper[0], mutated(draw, paper[1]))
                expected = own_fault(question, view, fact, wrong)
                self.fault(expected, question, view, fact, wrong)
                word = expected and (expected[0], expected[1] != ())
                found[word] = found.get(word, 0) + 1
            other = draw.choice((("answer", ()), ("answer", (0,)), ("pair", (1,)), ("answer", (5,))))
            self.fault(own_fault(question, view, other, paper), question, view, other, paper)
        for word in ("shape", "steps", "row", "none", "cases"):
            for below in (True, False):
                self.assertGreater(found.get((word, below), 0), 1, (word, below, found))
        self.assertGreater(min(found[("heard", False)], found[None]), 60, found)

    def test_lists_are_faults(self):
        self.fault(None, BOTH, VIEW, SEVEN, (HEARD, TREE))
        for heard in (list(HEARD), as_lists(HEARD), ([*HEARD[0]],), ((0, [(0, (7,))], ()),), ((0, ([0, (7,)],), ()),),
                      ((0, ((0, [7]),), ()),), ((0, ((0, (7,)),), []),)):
            self.fault(("heard", ()), BOTH, VIEW, SEVEN, (heard, TREE))
        self.fault(("heard", ()), BOTH, VIEW, SEVEN, [HEARD, TREE])
        self.fault(("row", ()), BOTH, VIEW, SEVEN, (HEARD, ("row", [1, (7,)], LEAF, OTHER)))
        self.fault(("row", ()), BOTH, VIEW, SEVEN, (HEARD, ("row", (1, [7]), LEAF, OTHER)))
        self.fault(("shape", ()), BOTH, VIEW, SEVEN, (HEARD, list(TREE)))
        self.fault(("shape", (0,)), BOTH, VIEW, SEVEN, (HEARD, ("row", (1, (7,)), list(LEAF), OTHER)))
        self.fault(("shape", (1,)), BOTH, VIEW, SEVEN, (HEARD, ("row", (1, (7,)), LEAF, list(OTHER))))
        # A derivation may have lists.
        for steps in ([(0, (7,))], ([0, (7,)],), [[0, [7]]]):
            self.fault(None, BOTH, VIEW, SEVEN, (HEARD, ("row", (1, (7,)), ("told", steps), OTHER)))

    def test_lists_in_parted_patterns(self):
        question = Question((1, 1), [("answer", (), [("none", (1, (-1,)))]), ("answer", (), [("row", 1, ("x",))])])
        fact = ("answer", ())
        empty, there = ("told", ((0, ()),)), ("told", ((1, (0,)),))
        good = ("none", (1, (-1,)), empty, (((1, (0,)), there),))
        self.fault(None, question, View(DEALING), fact, ((), good))
        for pattern in ([1, (-1,)], (1, [-1])):
            self.fault(("none", ()), question, View(DEALING), fact, ((), ("none", pattern, empty, good[3])))
        for row in ([1, (0,)], (1, [0]), (1, (False,)), (True, (0,)), (0, (0,)), (1, (1,)), (1, (0, 0)), None):
            self.fault(("cases", ()), question, View(DEALING), fact, ((), (*good[:3], ((row, there),))))
        for cases in ([((1, (0,)), there)], ([(1, (0,)), there],), ((),), (((1, (0,)), there, there),), None, "a", (3,)):
            self.fault(("shape", ()), question, View(DEALING), fact, ((), (*good[:3], cases)))
        self.fault(("shape", (1,)), question, View(DEALING), fact, ((), (*good[:3], (((1, (0,)), list(there)),))))
        self.fault(("shape", (0,)), question, View(DEALING), fact, ((), (good[0], good[1], None, good[3])))
        self.fault(("cases", ()), question, View(DEALING), fact, ((), (*good[:3], ())))
        self.fault(("cases", ()), question, View(DEALING), fact, ((), (*good[:3], good[3] * 2)))

    def test_heard(self):
        view = View(DEALING, [(0, Whole([(0, (7,)), (0, (8,))], [(0, (9,)), (1, (7,))])),
                              (1, Whole([(1, (3,))], [(1, (-1,))]))])
        leaf = (("told", ((0, (7,)),)))
        question = Question((1, 1), [("answer", ("x",), [("row", 0, ("x",))])])
        for heard in (HEARD, ((0, ((0, (7,)), (0, (8,))), ()),), ((0, ((0, (7,)),), ((0, (9,)),)),),
                      ((0, ((0, (7,)),), ((0, (9,)), (1, (7,)))),), (*HEARD, (1, ((1, (3,)),), ((1, (-1,)),))),
                      (*HEARD, (1, ((1, (3,)),), ()))):
            self.fault(None, question, view, SEVEN, (heard, leaf))
        for heard in (((0, ((0, (7,)),), ((0, (8,)),)),),           # a seal that the view has not
                      ((0, ((0, (6,)), (0, (7,))), ()),),           # a row that the view has not
                      (*HEARD, (1, (), ((1, (-1,)),))),             # the view has a row under this seal
                      (*HEARD, (1, (), ())), ((1, ((1, (3,)),), ()), *HEARD), HEARD * 2, (*HEARD, (2, ((0, (7,)),), ())),
                      ((False, *HEARD[0][1:]),), ((0, ((0, (8,)), (0, (7,))), ()),), ((0, ((0, (7,)),) * 2, ()),),
                      ((0, ((0, (7,)),), ((1, (7,)), (0, (9,)))),), ((0, ((0, (7,)),)),), ((-1, *HEARD[0][1:]),),
                      ((0, ((False, (7,)),), ()),), ((0, ((0, (-1,)),), ()),), ("ab",), "ab", None, 3, {}, (None,)):
            self.fault(("heard", ()), question, view, SEVEN, (heard, leaf))
        for paper in (None, 3, "ab", (), (HEARD,), (HEARD, leaf, leaf), {0: HEARD, 1: leaf}, set()):
            self.fault(("heard", ()), question, view, SEVEN, paper)
        # Nothing is heard of house 1.
        self.fault(("heard", ()), question, VIEW, SEVEN, ((*HEARD, (1, ((1, (3,)),), ())), leaf))
        # What the view has beyond what the paper heard is not looked at.
        self.fault(("steps", ()), question, view, ("answer", (8,)), (HEARD, ("told", ((0, (8,)),))))

    def test_steps(self):
        alone = Question((1, 1), [ALONE])
        self.fault(("steps", (1,)), alone, VIEW, SEVEN, (HEARD, TREE))
        self.fault(("steps", ()), alone, VIEW, SEVEN, (HEARD, LEAF))     # its 'not' is open
        for steps in ((), None, ((0, (8,)),), ((0, (True,)),), ((1, (7,)),), ((0, (7,)), (0, (8,))), "ab", ((5, (7,)),)):
            self.fault(("steps", (0,)), BOTH, VIEW, SEVEN, (HEARD, ("row", (1, (7,)), ("told", steps), OTHER)))

    def test_parted_rows(self):
        # A parted row need not stand in a rule, but its worths are known.
        question = Question((1, 1), [ALONE, BESIDE, ("pair", (9,), [])])
        self.fault(None, question, VIEW, SEVEN, (HEARD, ("row", (0, (9,)), TREE, TREE)))
        for row in ((0, (8,)), (0, (7,)), (2, (7,)), (1, (7, 7)), (1, ()), (1, (-1,)), (1, (True,)), None, "ab", 3, (1,)):
            self.fault(("row", ()), question, VIEW, SEVEN, (HEARD, ("row", row, TREE, TREE)))
        # A row that was parted above is open no more.
        self.fault(("row", (0,)), BOTH, VIEW, SEVEN, (HEARD, ("row", (1, (7,)), TREE, OTHER)))
        self.fault(("row", (1,)), BOTH, VIEW, SEVEN, (HEARD, ("row", (1, (7,)), LEAF, TREE)))
        # The first fault counts: the tree ahead of its branches, branches in their order.
        self.fault(("row", ()), BOTH, VIEW, SEVEN, (HEARD, ("row", (1, (8,)), None, None)))
        self.fault(("steps", (0,)), BOTH, VIEW, SEVEN, (HEARD, ("row", (1, (7,)), OTHER, None)))

    def test_parted_patterns(self):
        question = Question((1, 1), [ALONE, BESIDE])
        cases = (((1, (7,)), OTHER), ((1, (8,)), TREE))
        good = ("none", (1, (-1,)), LEAF, cases)
        self.fault(None, question, VIEW, SEVEN, (HEARD, good))
        for wrong in (cases[::-1], cases[:1], cases[1:], (cases[0], *cases), (), (cases[0], ((1, (9,)), TREE))):
            self.fault(("cases", ()), question, VIEW, SEVEN, (HEARD, ("none", (1, (-1,)), LEAF, wrong)))
        for pattern in ((1, (8,)), (0, (-1,)), (0, (7,)), (1, (-2,)), (1, (-1, -1)), (2, (-1,)), (1, (True,)), None, "ab",
                        (1,), 3):
            self.fault(("none", ()), question, VIEW, SEVEN, (HEARD, ("none", pattern, LEAF, cases)))
        # Below the case of a new worth that worth is known.
        below = ("row", (0, (8,)), TREE, TREE)
        self.fault(None, question, VIEW, SEVEN, (HEARD, ("none", (1, (-1,)), LEAF, (cases[0], ((1, (8,)), below)))))
        self.fault(("row", (1,)), question, VIEW, SEVEN, (HEARD, ("none", (1, (-1,)), LEAF, (
            ((1, (7,)), ("row", (0, (8,)), OTHER, OTHER)), cases[1]))))
        self.fault(("none", (0,)), question, VIEW, SEVEN, (HEARD, ("none", (1, (-1,)), good, cases)))
        self.fault(("none", (2,)), question, VIEW, SEVEN, (HEARD, ("none", (1, (-1,)), LEAF, (cases[0], ((1, (8,)), good)))))

    def test_no_fact_has_both(self):
        draw = drawing(164)
        both = 0
        while both < 60:
            tables = draw.choice(((1,), (1, 1)))
            question = Question(tables, shaky_rules(draw, tables, True))
            view = small_view(draw, tables, (0, 1), 12, most_modulus=2, most_houses=2)
            for fact in told_facts(question, view.rows)[:2]:
                world = first_world(question, view.dealing, view.wholes, fact)
                rows = open_ones(world, enough_worths(question, world))
                if len(rows) > 8:
                    continue
                verdict = find_verdict(question, view, fact)
                if isinstance(verdict, Sure):
                    self.assertIsNone(paper_fault(question, view, fact, verdict.paper))
                    self.assertTrue(is_told_always(question, world, rows, fact))
                else:
                    self.assertIsNone(foil_fault(question, view, fact, verdict.rows))
                both += 1

    def test_large_papers_in_seconds(self):
        begin = time.process_time()
        rules = [("answer", ("x",), [("told", "at", ("x",))]), ("at", (0,), []),
                 ("at", ("y",), [("told", "at", ("x",)), ("row", 0, ("x", "y")), ("not", 1, ("y",))]),
                 ("at", ("y",), [("told", "at", ("x",)), ("row", 0, ("x", "y")), ("row", 1, ("y",))])]
        view = View(one_house((2, 1)), [(0, Whole([(0, (at, at + 1)) for at in range(8)]))])
        question = Question((2, 1), rules)
        paper = find_verdict(question, view, ("answer", (8,))).paper
        self.assertEqual(len(leaf_places(paper)), 256)
        self.assertIsNone(paper_fault(question, view, ("answer", (8,)), paper))
        walk_paper(question, view, ("answer", (8,)), paper, view.rows)
        # Neither judge goes as deep as a paper that only looks like one.
        tree = LEAF
        for _ in range(3000):
            tree = ("row", (1, (7,)), tree, LEAF)
        self.assertEqual(paper_fault(BOTH, VIEW, SEVEN, (HEARD, tree)), PaperFault("row", (0,)))
        self.assertEqual(len(leaf_places((HEARD, tree))), 3001)
        self.assertLess(time.process_time() - begin, 15)

    def test_results(self):
        fault, walk = PaperFault("row", (1,)), PaperWalk((1,), ((0, (7,)),))
        self.assertEqual((fault.what, fault.place, walk.place, walk.derivation), ("row", (1,), (1,), ((0, (7,)),)))
        self.assertEqual(fault, PaperFault("row", (1,)))
        self.assertEqual(walk, PaperWalk((1,), ((0, (7,)),)))
        for one, other in ((fault, PaperFault("none", (1,))), (fault, PaperFault("row", ())), (fault, walk), (fault, None),
                           (walk, PaperWalk((), walk.derivation)), (walk, PaperWalk((1,), ())), (walk, fault)):
            self.assertFalse(one == other)


class LeafPlacesTest(unittest.TestCase):
    def test_order(self):
        draw = drawing(165)
        for _ in range(100):
            _, _, _, paper = drawn_paper(draw, draw.choice(((1,), (1, 1), (2, 1))))
            self.assertEqual(unchanged(self, leaf_places, paper), own_leaves(paper[1]))
        self.assertEqual(leaf_places((HEARD, LEAF)), ((),))
        self.assertEqual(leaf_places((HEARD, ("none", (1, (-1,)), TREE, (((1, (7,)), OTHER), ((1, (8,)), TREE))))),
                         ((0, 0), (0, 1), (1,), (2, 0), (2, 1)))

    def test_rows_alone(self):
        # Four rows are open over the known worths, so there are at most 2 ** 4 leaves.
        question = Question((1,), [("answer", (), [("row", 0, (at,))]) for at in range(1, 4)]
                            + [("answer", (), [("not", 0, (at,))]) for at in (0, 1, 2)])
        paper = find_verdict(question, View(one_house((1,))), ("answer", ())).paper
        self.assertLessEqual(len(leaf_places(paper)), 16)


class WalkTest(unittest.TestCase):
    def test_against_another_walk(self):
        draw = drawing(166)
        steps = {0: 0, 1: 0, 2: 0}
        for _ in range(250):
            question, view, fact, paper = drawn_paper(draw, draw.choice(((1,), (1, 1), (2,), (2, 1))), least=2)
            if draw.random() < 0.4:
                question, view, fact, paper = deep_paper(draw)
            for _ in range(8):
                rows = sorted({*view.rows, *drawn_rows(draw, question.tables, (0, 1, 2, 3, 4, 5, FAR), 5)})
                rows = [row for row in rows if not view.lacks(row)]
                given = shuffled(draw, rows)
                world = first_world(question, view.dealing, view.wholes, fact)
                place, leaf, swaps = own_walk(question, world, paper[1], rows)
                found = unchanged(self, walk_paper, question, view, fact, paper, given)
                self.assertEqual(found, PaperWalk(place, undone(leaf, swaps)))
                self.assertTrue(is_plain((found.place, found.derivation)))
                self.assertIn(found.place, leaf_places(paper))
                self.assertIsNone(derivation_fault(question, rows, fact, found.derivation))
                steps[min(len(swaps), 2)] += 1
        self.assertGreater(min(steps.values()), 10, steps)

    def test_exchanges_one_after_the_other(self):
        rules = [("answer", (), [("none", (0, (-1, -1)))]), ("answer", (), [("row", 0, ("x", "y")), ("none", (1, (-1,)))]),
                 ("answer", (), [("row", 0, ("x", "y")), ("row", 1, ("z",)), ("not", 0, ("y", "x"))]),
                 ("answer", (), [("row", 0, ("x", "y")), ("row", 1, ("z",)), ("row", 0, ("y", "x"))])]
        question = Question((2, 1), rules)
        view = View(one_house((2, 1)))
        fact = ("answer", ())
        paper = find_verdict(question, view, fact).paper
        for rows, far in (([(0, (5, 9)), (1, (4,))], 2), ([(0, (1, 0)), (1, (0,)), (1, (7,))], 2),
                          ([(0, (3, 3)), (1, (1,))], 2), ([(0, (0, 1)), (1, (2,))], 2), ([(0, (FAR, 0)), (0, (0, FAR))], 2)):
            rows.sort()
            found = walk_paper(question, view, fact, paper, rows)
            world = first_world(question, view.dealing, (), fact)
            place, leaf, swaps = own_walk(question, world, paper[1], rows)
            self.assertEqual(found, PaperWalk(place, undone(leaf, swaps)))
            self.assertGreaterEqual(len(found.place), far)
            self.assertIsNone(derivation_fault(question, rows, fact, found.derivation))
        # A derivation with lists is given back in tuples.
        paper = (HEARD, ("row", (1, (7,)), ("told", [[0, [7]]]), OTHER))
        self.assertEqual(walk_paper(BOTH, VIEW, SEVEN, paper, [[0, [7]]]), PaperWalk((0,), ((0, (7,)),)))

    def test_errors_in_their_order(self):
        paper, wrong = (HEARD, TREE), (HEARD, ("row", (1, (7,)), LEAF, LEAF))
        for rows in (None, 3, "ab", {}, [(0, (7,)), (0, (7, 7))], [None]):
            with self.assertRaises(BadRow):
                walk_paper(BOTH, VIEW, SEVEN, wrong, rows)
        refuses(self, BadRow, {"what": "worth"}, walk_paper, BOTH, VIEW, SEVEN, wrong, [(0, (7,)), (1, (True,))])
        refuses(self, BadRow, {"what": "width"}, walk_paper, BOTH, VIEW, SEVEN, paper, [(0, (7, 1))])
        refuses(self, BadPaper, {"what": "steps", "place": (1,)}, walk_paper, BOTH, VIEW, SEVEN, wrong, [])
        refuses(self, BadPaper, {"what": "heard", "place": ()}, walk_paper, BOTH, VIEW, SEVEN, None, [])
        refuses(self, BadPaper, {"what": "shape", "place": ()}, walk_paper, BOTH, VIEW, SEVEN, (HEARD, None), [(0, (7,))])
        refuses(self, NotLet, {"row": (0, (7,))}, walk_paper, BOTH, VIEW, SEVEN, paper, [(0, (8,))])
        # The view itself counts, not what the paper heard.
        more = View(DEALING, [(0, Whole([(0, (7,)), (0, (8,))])), (1, Whole([], [(1, (7,))]))])
        refuses(self, NotLet, {"row": (0, (8,))}, walk_paper, BOTH, more, SEVEN, paper, [(0, (7,)), (1, (7,))])
        refuses(self, NotLet, {"row": (1, (7,))}, walk_paper, BOTH, more, SEVEN, paper, [(0, (7,)), (0, (8,)), (1, (7,))])
        self.assertEqual(walk_paper(BOTH, more, SEVEN, paper, [(0, (8,)), (0, (7,))]), PaperWalk((0,), ((0, (7,)),)))


class FoilFaultTest(unittest.TestCase):
    def test_each_word(self):
        draw = drawing(167)
        found = {"known": 0, "lacking": 0, "told": 0, None: 0}
        for _ in range(500):
            tables = draw.choice(((1,), (1, 1), (2,)))
            question = Question(tables, shaky_rules(draw, tables, False))
            view = small_view(draw, tables, (0, 1), 5)
            facts = answers_of(question, view.rows)
            fact = draw.choice(facts) if facts else ("answer", (0,))
            rows = {*drawn_rows(draw, tables, (0, 1, 2), 3), *(view.rows if draw.random() < 0.8 else ())}
            if not set(view.rows) <= rows:
                expected = "known"
            elif any(view.lacks(row) for row in rows):
                expected = "lacking"
            else:
                expected = "told" if fact in told_facts(question, rows) else None
            given = shuffled(draw, sorted(rows))
            self.assertEqual(unchanged(self, foil_fault, question, view, fact, given), expected)
            self.assertEqual(foil_fault(question, view, fact, as_lists(given)), expected)
            self.assertIs(foil_fault(question, view, ("nobody", ()), given),
                          expected if expected in ("known", "lacking") else None)
            found[expected] += 1
        self.assertGreater(min(found.values()), 10, found)

    def test_rows(self):
        for rows in (None, 3, "ab", {}, set()):
            refuses(self, BadRow, {"what": "row"}, foil_fault, BOTH, VIEW, SEVEN, rows)
        refuses(self, BadRow, {"what": "table"}, foil_fault, BOTH, VIEW, SEVEN, [(0, (7,)), (2, (7,)), None])

    def test_the_example(self):
        self.assertIsNone(paper_fault(BOTH, VIEW, SEVEN, (HEARD, TREE)))
        alone = Question((1, 1), [ALONE])
        self.assertEqual(paper_fault(alone, VIEW, SEVEN, (HEARD, TREE)), PaperFault("steps", (1,)))
        self.assertIsNone(foil_fault(alone, VIEW, SEVEN, ((0, (7,)), (1, (7,)))))
        self.assertEqual(foil_fault(BOTH, VIEW, SEVEN, ((0, (7,)), (1, (7,)))), "told")


if __name__ == "__main__":
    unittest.main()
