"""Promises 2.1, 2.2 and 2.6 to 2.8: texts of papers."""

import unittest

from soonestsaid.errors import BadText
from soonestsaid.papertext import paper_text, read_paper
from tests.grammar import PAPER, check_mutants, check_one, fault
from tests.helpers import as_lists, drawing, is_plain, refuses, unchanged

GREAT = 10 ** 100 - 1
LEAF = ("told", ())
TEXTS = {
    "0[0(7)][]; 1[][1(*)]: row 1(7){told[0(7)]}{told[1(7)]}.":
        (((0, ((0, (7,)),), ()), (1, (), ((1, (-1,)),))),
         ("row", (1, (7,)), ("told", ((0, (7,)),)), ("told", ((1, (7,)),)))),
    ": told[].": ((), LEAF),
    ": told[0(), 1(2, 3), 0(), 5(9, 8, 7, 6)].": ((), ("told", ((0, ()), (1, (2, 3)), (0, ()), (5, (9, 8, 7, 6))))),
    "9[][]; 3[0(2), 0(1), 0(2)][1(*, *), 0(1), 0()]; 3[][]: none 0(*){told[]}.":
        (((9, (), ()), (3, ((0, (2,)), (0, (1,)), (0, (2,))), ((1, (-1, -1)), (0, (1,)), (0, ()))), (3, (), ())),
         ("none", (0, (-1,)), LEAF, ())),
    ": none 1(*, 4){told[2(1)]}{1(4, 4): told[]}{1(5, 4): row 0(5){told[]}{none 0(){told[]}{0(): told[]}}}.":
        ((), ("none", (1, (-1, 4)), ("told", ((2, (1,)),)), (
            ((1, (4, 4)), LEAF),
            ((1, (5, 4)), ("row", (0, (5,)), LEAF, ("none", (0, ()), LEAF, (((0, ()), LEAF),))))))),
    ": row 0(1){row 0(2){told[]}{told[]}}{row 0(2){told[]}{told[]}}.":
        ((), ("row", (0, (1,)), ("row", (0, (2,)), LEAF, LEAF), ("row", (0, (2,)), LEAF, LEAF))),
    f"{GREAT}[{GREAT}({GREAT})][{GREAT}(*, {GREAT})]: told[{GREAT}({GREAT})].":
        (((GREAT, ((GREAT, (GREAT,)),), ((GREAT, (-1, GREAT)),)),), ("told", ((GREAT, (GREAT,)),))),
}
# For each kind of branch what opens the bracket, and what stands behind the tree within it.
BRANCHES = (("row 0(5){", "}{told[]}"), ("row 0(5){told[]}{", "}"), ("none 0(*){", "}"), ("none 0(*){", "}{0(1): told[]}"),
            ("none 0(*){told[]}{0(12): ", "}"), ("none 0(*){told[]}{0(1): told[]}{0(2): ", "}{0(3): told[]}"))


def drawn_rows(draw, least=0):
    return tuple((draw.randrange(12), tuple(draw.randrange(least, 20) for _ in range(draw.randint(0, 3))))
                 for _ in range(draw.randint(0, 3)))


def drawn_row(draw, least=0):
    return (draw.randrange(12), tuple(draw.randrange(least, 20) for _ in range(draw.randint(0, 2))))


def drawn_tree(draw, depth):
    kind = draw.choice(("told", "row", "none")) if depth else "told"
    if kind == "told":
        return ("told", drawn_rows(draw))
    if kind == "row":
        return ("row", drawn_row(draw), drawn_tree(draw, depth - 1), drawn_tree(draw, depth - 1))
    cases = tuple((drawn_row(draw), drawn_tree(draw, depth - 1)) for _ in range(draw.randint(0, 3)))
    return ("none", drawn_row(draw, -1), drawn_tree(draw, depth - 1), cases)


def drawn_paper(draw):
    heard = tuple((draw.randrange(12), drawn_rows(draw), drawn_rows(draw, -1)) for _ in range(draw.randint(0, 3)))
    return (heard, drawn_tree(draw, 3))


def nested(branch, many, inner):
    """A tree's text that stands within this many brackets, all of the branch."""
    return branch[0] * many + inner + branch[1] * many


class PaperTextTest(unittest.TestCase):
    def test_texts(self):
        for text, (heard, tree) in TEXTS.items():
            self.assertEqual(unchanged(self, paper_text, heard, tree), text)
            self.assertEqual(unchanged(self, paper_text, as_lists(heard), as_lists(tree)), text)

    def test_reading(self):
        for text, data in TEXTS.items():
            found = read_paper(text)
            self.assertEqual(found, data)
            self.assertTrue(is_plain(found))

    def test_drawn_data_come_back(self):
        draw = drawing(31)
        for _ in range(200):
            data = drawn_paper(draw)
            text = paper_text(*data)
            self.assertIsNone(fault(PAPER, text), text)
            found = read_paper(text)
            self.assertEqual(found, data)
            self.assertTrue(is_plain(found))

    def test_forty_brackets(self):
        for branch in BRANCHES:
            for many in (1, 2, 39, 40):
                text = ": " + nested(branch, many, "told[3(4)]") + "."
                self.assertIsNone(fault(PAPER, text))
                self.assertEqual(paper_text(*read_paper(text)), text)


class BadPaperTextTest(unittest.TestCase):
    def test_no_string(self):
        for thing in (None, 0, True, b": told[].", (), [": told[]."], ((), LEAF), {}):
            refuses(self, BadText, {"place": 0}, read_paper, thing)

    def test_the_forty_first_bracket(self):
        for branch in BRANCHES:
            for other in BRANCHES:
                begin = ": " + branch[0] * 40
                text = begin + other[0] + "told[]" + other[1] + branch[1] * 40 + "."
                # What would open a further bracket cannot begin at all.
                refuses(self, BadText, {"place": len(begin)}, read_paper, text)
                self.assertEqual(fault(PAPER, text), len(begin))

    def test_brackets_that_were_closed_do_not_count(self):
        full = nested(BRANCHES[1], 39, "told[]")
        text = f": row 0(5){{{full}}}{{{full}}}."
        self.assertEqual(paper_text(*read_paper(text)), text)
        many = "".join("{0(1): told[]}" for _ in range(60))
        text = ": none 0(*){told[]}" + many + "."
        self.assertEqual(paper_text(*read_paper(text)), text)

    def test_told_places(self):
        for text, place in (
                ("", 0), (":", 1), (": ", 2), (":told[].", 1), (":  told[].", 2), (" : told[].", 0), ("; : told[].", 0),
                ("told[].", 0), (": tol[].", 5), (": told().", 6), (": told[", 7), (": told[]", 8), (": told[].\n", 9),
                (": told[]..", 9), (": told[] .", 8), (": told[ ].", 7), (": told[0(*)].", 9), (": told[0(1),0(1)].", 12),
                (": told[0(1), ].", 13), (": told[00()].", 8), (": told[0].", 8), ("0[][]:told[].", 6), ("0[] []", 3),
                ("0[][] : told[].", 5), ("0[][]; : told[].", 7), ("0[][];1[][]: told[].", 6), ("0[][], 1[][]", 5),
                ("0[0(*)][]: told[].", 4), ("0[][0(**)]: told[].", 7), ("0[]: told[].", 3), ("0 [][]: told[].", 1),
                ("00[][]: told[].", 1), (": row 0(*){told[]}{told[]}.", 8), (": row 0(1){told[]}.", 18),
                (": row 0(1){told[]} {told[]}.", 18), (": row 0(1){told[]}{told[]}{told[]}.", 26),
                (": row 0(1) {told[]}{told[]}.", 10), (": row 0(1){}{told[]}.", 11), (": none 0(*).", 11),
                (": none 0(**){told[]}.", 10), (": none 0(*){told[]}{told[]}.", 20), (": none 0(*){told[]}{0(*): told[]}.", 22),
                (": none 0(*){told[]}{0(1):told[]}.", 25), (": none 0(*){told[]}{0(1)}.", 24),
                (": none 0(*){told[]}{0(1): told[]", 32), (": none 0(*){told[]}{0(1): told[]}", 33),
                (": not 0(*){told[]}.", 4), (f"1{'0' * 100}[][]: told[].", 100)):
            refuses(self, BadText, {"place": place}, read_paper, text)
            self.assertEqual(fault(PAPER, text), place)

    def test_each_changed_sign(self):
        for text in list(TEXTS)[:6]:
            check_mutants(self, PAPER, text, read_paper, BadText, "0a *(),.;:[]{}\n~")
        check_mutants(self, PAPER, list(TEXTS)[6], read_paper, BadText, "0*]")

    def test_each_changed_sign_within_many_brackets(self):
        for branch in BRANCHES[::2]:
            text = ": " + nested(branch, 40, "told[3(4)]") + "."
            check_mutants(self, PAPER, text, read_paper, BadText, "r}{")

    def test_drawn_texts(self):
        draw = drawing(32)
        for _ in range(150):
            text = paper_text(*drawn_paper(draw))
            for _ in range(20):
                place = draw.randrange(len(text))
                other = draw.randrange(len(text))
                mutant = draw.choice((
                    text[:place] + text[other:], text[:place] + draw.choice("0a *,.;:()[]{}\n~") + text[place:],
                    text[:place] + text[place + 1:]))
                check_one(self, mutant, fault(PAPER, mutant), read_paper, BadText)


if __name__ == "__main__":
    unittest.main()
