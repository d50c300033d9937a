"""Promises 2.1 to 2.3, 2.7 and 2.8: texts of questions."""

import unittest

from soonestsaid.errors import BadText
from soonestsaid.questiontext import question_text, read_question
from tests.grammar import QUESTION, check_mutants, check_one, fault
from tests.helpers import as_lists, drawing, is_plain, refuses, unchanged

EXAMPLE = "tables 2, 1: answer(x) <- row 0(x, y), not 1(y), none 0(*, 7); answer(4)."
EXAMPLE_DATA = (
    (2, 1),
    (("answer", ("x",), (("row", 0, ("x", "y")), ("not", 1, ("y",)), ("none", (0, (-1, 7))))), ("answer", (4,), ())))
GREAT = 10 ** 100 - 1
TEXTS = {
    EXAMPLE: EXAMPLE_DATA,
    "tables 2, 1: pair(x, 3) <- row 0(x, 5), told pair(x), not 1(x), none 1(*), unlike(x, 3).":
        ((2, 1), (("pair", ("x", 3), (("row", 0, ("x", 5)), ("told", "pair", ("x",)), ("not", 1, ("x",)),
                                      ("none", (1, (-1,))), ("unlike", "x", 3))),)),
    "tables 0: a().": ((0,), (("a", (), ()),)),
    f"tables {GREAT}, 0: abcdefgh({GREAT}, abcdefgh).": ((GREAT, 0), (("abcdefgh", (GREAT, "abcdefgh"), ()),)),
    "tables 1: a() <- row 0(), told a(), not 7(), none 99(), unlike(0, z).":
        ((1,), (("a", (), (("row", 0, ()), ("told", "a", ()), ("not", 7, ()), ("none", (99, ())), ("unlike", 0, "z"))),)),
    "tables 9, 9, 9, 9: row(told) <- told not(none, unlike); not(); none(1); unlike(row); told().":
        ((9, 9, 9, 9), (("row", ("told",), (("told", "not", ("none", "unlike")),)), ("not", (), ()), ("none", (1,), ()),
                        ("unlike", ("row",), ()), ("told", (), ()))),
    "tables 1: a(b) <- none 0(*, *, 0, 10, *), none 1(*).":
        ((1,), (("a", ("b",), (("none", (0, (-1, -1, 0, 10, -1))), ("none", (1, (-1,))))),)),
}


def drawn_question(draw):
    def number():
        return draw.choice((0, 1, 10, 99, draw.randrange(10 ** 6), GREAT))

    def name():
        return "".join(draw.choice("abcxyz") for _ in range(draw.randint(1, 8)))

    def terms(make):
        return tuple(make() for _ in range(draw.randint(0, 3)))

    def term():
        return draw.choice((number, name))()

    def condition():
        word = draw.choice(("row", "told", "not", "none", "unlike"))
        if word == "unlike":
            return (word, term(), term())
        if word == "none":
            return (word, (number(), terms(lambda: draw.choice((-1, number())))))
        return (word, name() if word == "told" else number(), terms(term))

    def rule():
        return (name(), terms(term), tuple(condition() for _ in range(draw.randint(0, 3))))

    return (tuple(number() for _ in range(draw.randint(1, 4))), tuple(rule() for _ in range(draw.randint(1, 4))))


class QuestionTextTest(unittest.TestCase):
    def test_texts(self):
        for text, (tables, rules) in TEXTS.items():
            self.assertEqual(unchanged(self, question_text, tables, rules), text)
            self.assertEqual(unchanged(self, question_text, as_lists(tables), as_lists(rules)), text)

    def test_reading(self):
        for text, data in TEXTS.items():
            found = read_question(text)
            self.assertEqual(found, data)
            self.assertTrue(is_plain(found))

    def test_drawn_data_come_back(self):
        draw = drawing(11)
        for _ in range(300):
            data = drawn_question(draw)
            text = question_text(*data)
            self.assertIsNone(fault(QUESTION, text), text)
            self.assertEqual(read_question(text), data)


class BadQuestionTextTest(unittest.TestCase):
    def test_no_string(self):
        for thing in (None, 0, True, b"tables 1: a().", (), [EXAMPLE], {}, 1.0):
            refuses(self, BadText, {"place": 0}, read_question, thing)

    def test_told_places(self):
        longest = "1" * 100
        for text, place in (
                ("", 0), ("x", 0), (" " + EXAMPLE, 0), ("Tables 1: a().", 0), ("tables", 6), ("tables ", 7),
                ("tables: a().", 6), ("tables  1: a().", 7), ("tables : a().", 7), ("tables 01: a().", 8),
                ("tables 1:a().", 9), ("tables 1,2: a().", 9), ("tables 1, : a().", 10), ("tables 1, 2 : a().", 11),
                ("tables -1: a().", 7), ("tables *: a().", 7), ("tables 1: .", 10), ("tables 1: 1().", 10),
                ("tables 1: A().", 10), ("tables 1: a_().", 11), ("tables 1: a ().", 11), ("tables 1: a( ).", 12),
                ("tables 1: a(b,c).", 14), ("tables 1: a(b, ).", 15), ("tables 1: a(b c).", 13),
                ("tables 1: a(b1).", 13), ("tables 1: a(1b).", 13), ("tables 1: a(*).", 12), ("tables 1: a()", 13),
                ("tables 1: a().\n", 14), ("tables 1: a(). ", 14), ("tables 1: a()..", 14), ("tables 1: a() .", 14),
                ("tables 1: a();b().", 14), ("tables 1: a(); .", 15), ("tables 1: a(), b().", 13),
                ("tables 1: a() <- .", 17), ("tables 1: a() <-row 0().", 16), ("tables 1: a() -> row 0().", 14),
                ("tables 1: a() <- row 0(*).", 23), ("tables 1: a() <- rows 0().", 20), ("tables 1: a() <- row a().", 21),
                ("tables 1: a() <- told 0().", 22), ("tables 1: a() <- no 0().", 19), ("tables 1: a() <- nor 0().", 19),
                ("tables 1: a() <- not a().", 21), ("tables 1: a() <- none 0(a).", 24),
                ("tables 1: a() <- none 0(**).", 25), ("tables 1: a() <- unlike (a, b).", 23),
                ("tables 1: a() <- unlike().", 24), ("tables 1: a() <- unlike(a).", 25),
                ("tables 1: a() <- unlike(a, b, c).", 28), ("tables 1: a() <- row 0() <- row 0().", 24),
                ("tables 1: a() <- row 0(), .", 26), ("tables 1: a() <- row 0(),not 0().", 25),
                ("tables 1: abcdefghi().", 18), ("tables 1: a(abcdefghi).", 20),
                ("tables 1: a() <- told abcdefghi().", 30), (f"tables 1{longest}: a().", 107),
                (f"tables 1: a(1{longest}).", 112), ("tables 1: a(00).", 13), ("tables 1: a(01).", 13),
                ("tables 1: a() <- none 0(00).", 25), ("tables 1: a() <- row 00().", 22)):
            refuses(self, BadText, {"place": place}, read_question, text)

    def test_texts_of_another_kind(self):
        refuses(self, BadText, {"place": 10}, read_question, "tables 1: .")
        refuses(self, BadText, {"place": 16}, read_question, "tables 1: houses 3, modulus 2.")
        refuses(self, BadText, {"place": 0}, read_question, "hand 3.")

    def test_each_changed_sign(self):
        for text in list(TEXTS)[:3] + list(TEXTS)[4:]:
            check_mutants(self, QUESTION, text, read_question, BadText, "0a1 *(),.;:-<X\n")

    def test_great_numbers_and_long_names(self):
        for text in (f"tables 1{'0' * 99}: a(1{'0' * 99}, abcdefgh) <- none 1(9{'8' * 99}), told abcdefgh().",
                     f"tables 1: a() <- unlike({'5' * 100}, zzzzzzzz)."):
            self.assertEqual(question_text(*read_question(text)), text)
            check_mutants(self, QUESTION, text, read_question, BadText, "0a*")

    def test_drawn_texts(self):
        draw = drawing(12)
        for _ in range(200):
            text = question_text(*drawn_question(draw))
            for _ in range(20):
                place = draw.randrange(len(text))
                other = draw.randrange(len(text))
                mutant = draw.choice((
                    text[:place] + text[other:], text[:place] + draw.choice("0a *,.;:()<-\n~") + text[place:],
                    text[:place] + text[place + 1:], text[:place] + text[place:] * 2))
                check_one(self, mutant, fault(QUESTION, mutant), read_question, BadText)


if __name__ == "__main__":
    unittest.main()
