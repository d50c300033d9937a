"""Promises 2.1, 2.2, 2.4, 2.5, 2.7 and 2.8: texts of dealings and deeds."""

import unittest

from soonestsaid.dealtext import deed_text, dealing_text, read_dealing, read_deed
from soonestsaid.errors import BadText
from tests.grammar import DEALING, DEED, check_mutants, check_one, fault
from tests.helpers import as_lists, drawing, is_plain, refuses, unchanged

GREAT = 10 ** 100 - 1
DEALINGS = {
    "tables 2, 1: houses 3, modulus 2; accept 0 1(0+1); row 0(3, 4) to 0+2.":
        ((2, 1), 3, 2, ((0, 1, ((0, 1),)),), (((0, (3, 4)), (0, 2)),)),
    "tables 1: houses 0, modulus 0.": ((1,), 0, 0, (), ()),
    "tables 0, 0, 0, 7: houses 5, modulus 3; accept 9 8(); accept 0 0(2, 1+0+0, 5); accept 0 0(1).":
        ((0, 0, 0, 7), 5, 3, ((9, 8, ()), (0, 0, ((2,), (1, 0, 0), (5,))), (0, 0, ((1,),))), ()),
    "tables 3: houses 1, modulus 1; row 2() to 1; row 0(7, 7, 7) to 3+2+1; row 0(0) to 0.":
        ((3,), 1, 1, (), (((2, ()), (1,)), ((0, (7, 7, 7)), (3, 2, 1)), ((0, (0,)), (0,)))),
    f"tables {GREAT}: houses {GREAT}, modulus {GREAT}; accept {GREAT} {GREAT}({GREAT}+{GREAT}); "
    f"row {GREAT}({GREAT}) to {GREAT}.":
        ((GREAT,), GREAT, GREAT, ((GREAT, GREAT, ((GREAT, GREAT),)),), (((GREAT, (GREAT,)), (GREAT,)),)),
}
DEEDS = {
    "put 0(3, 4).": ("put", (0, (3, 4))),
    "put 0().": ("put", (0, ())),
    f"put {GREAT}({GREAT}).": ("put", (GREAT, (GREAT,))),
    "seal 1 0(3, *).": ("seal", 1, (0, (3, -1))),
    "seal 12 3(*, *, *).": ("seal", 12, (3, (-1, -1, -1))),
    "seal 0 0().": ("seal", 0, (0, ())),
    "seal 0 1(8).": ("seal", 0, (1, (8,))),
    "send 0 1.": ("send", 0, 1),
    f"send {GREAT} 0.": ("send", GREAT, 0),
    "hand 3.": ("hand", 3),
    "double 3.": ("double", 3),
    "lose 3.": ("lose", 3),
    "stop 2.": ("stop", 2),
    f"stop {GREAT}.": ("stop", GREAT),
    "hand 0.": ("hand", 0),
}


def drawn_number(draw):
    return draw.choice((0, 1, 2, 10, draw.randrange(10 ** 6), GREAT))


def drawn_numbers(draw, least, most):
    return tuple(drawn_number(draw) for _ in range(draw.randint(least, most)))


def drawn_dealing(draw):
    accepts = tuple((drawn_number(draw), drawn_number(draw), tuple(
        drawn_numbers(draw, 1, 3) for _ in range(draw.randint(0, 3)))) for _ in range(draw.randint(0, 3)))
    exceptions = tuple(((drawn_number(draw), drawn_numbers(draw, 0, 3)), drawn_numbers(draw, 1, 3))
                       for _ in range(draw.randint(0, 3)))
    return (drawn_numbers(draw, 1, 3), drawn_number(draw), drawn_number(draw), accepts, exceptions)


def drawn_deed(draw):
    word = draw.choice(("put", "seal", "send", "hand", "double", "lose", "stop"))
    if word == "put":
        return (word, (drawn_number(draw), drawn_numbers(draw, 0, 3)))
    if word == "seal":
        cells = tuple(draw.choice((-1, drawn_number(draw))) for _ in range(draw.randint(0, 3)))
        return (word, drawn_number(draw), (drawn_number(draw), cells))
    return (word, drawn_number(draw), drawn_number(draw)) if word == "send" else (word, drawn_number(draw))


class DealingTextTest(unittest.TestCase):
    def test_texts(self):
        for text, data in DEALINGS.items():
            self.assertEqual(unchanged(self, dealing_text, *data), text)
            self.assertEqual(unchanged(self, dealing_text, *as_lists(data)), text)

    def test_reading(self):
        for text, data in DEALINGS.items():
            found = read_dealing(text)
            self.assertEqual(found, data)
            self.assertTrue(is_plain(found))

    def test_drawn_data_come_back(self):
        draw = drawing(21)
        for _ in range(300):
            data = drawn_dealing(draw)
            text = dealing_text(*data)
            self.assertIsNone(fault(DEALING, text), text)
            self.assertEqual(read_dealing(text), data)

    def test_no_string(self):
        for thing in (None, 0, True, b"", (), ["tables 1: houses 0, modulus 0."], {}):
            refuses(self, BadText, {"place": 0}, read_dealing, thing)

    def test_told_places(self):
        head = "tables 1: houses 1, modulus 1"
        for text, place in (
                ("", 0), ("tables 1: ", 10), ("tables 1: answer().", 10), ("tables : houses", 7), ("tables 1:houses", 9),
                ("tables 1: houses 1 , modulus 1.", 18), ("tables 1: houses 1, modulus1.", 27),
                ("tables 1: houses 01, modulus 1.", 18), (f"tables 1: houses 1{'1' * 100}, modulus 1.", 117)):
            refuses(self, BadText, {"place": place}, read_dealing, text)
        for rest, place in (
                ("", 0), (".\n", 1), (". ", 1), (" .", 0), ("; .", 2), (";accept 0 1().", 1), ("; accept 0 1 ().", 12),
                ("; accept 0  1().", 11), ("; accept 01 1().", 10), ("; accept 0 1(+).", 13), ("; accept 0 1(0+).", 15),
                ("; accept 0 1(0,1).", 15), ("; accept 0 1(0, ).", 16), ("; accept 0 1(*).", 13),
                ("; accept 0 1(0 + 1).", 14), ("; accept 0 1(); row 0() to 0; accept 0 1().", 30),
                ("; row 0() to 0; row 0() to .", 27), ("; row 0() to .", 13), ("; row 0(*) to 0.", 8),
                ("; row 0(1)  to 0.", 11), ("; row 0(1) to 0+.", 16), ("; row 0(1) to 0, 1.", 15),
                ("; row 0(1) to 00.", 15), ("; row 0(a) to 0.", 8), ("; row a(1) to 0.", 6), ("; none", 2)):
            refuses(self, BadText, {"place": len(head) + place}, read_dealing, head + rest)

    def test_each_changed_sign(self):
        for text in list(DEALINGS)[:4]:
            check_mutants(self, DEALING, text, read_dealing, BadText, "0a1 *(),.;:+to\n")
        check_mutants(self, DEALING, list(DEALINGS)[4], read_dealing, BadText, "0+ ")

    def test_drawn_texts(self):
        draw = drawing(22)
        for _ in range(200):
            text = dealing_text(*drawn_dealing(draw))
            for _ in range(20):
                place = draw.randrange(len(text))
                other = draw.randrange(len(text))
                mutant = draw.choice((
                    text[:place] + text[other:], text[:place] + draw.choice("0a *,.;:()+\n~") + text[place:],
                    text[:place] + text[place + 1:]))
                check_one(self, mutant, fault(DEALING, mutant), read_dealing, BadText)


class DeedTextTest(unittest.TestCase):
    def test_texts(self):
        for text, deed in DEEDS.items():
            self.assertEqual(unchanged(self, deed_text, deed), text)
            self.assertEqual(unchanged(self, deed_text, as_lists(deed)), text)

    def test_reading(self):
        for text, deed in DEEDS.items():
            found = read_deed(text)
            self.assertEqual(found, deed)
            self.assertTrue(is_plain(found))

    def test_drawn_deeds_come_back(self):
        draw = drawing(23)
        for _ in range(300):
            deed = drawn_deed(draw)
            text = deed_text(deed)
            self.assertIsNone(fault(DEED, text), text)
            self.assertEqual(read_deed(text), deed)

    def test_no_string(self):
        for thing in (None, 0, True, b"hand 3.", ("hand", 3), ["hand 3."], {}):
            refuses(self, BadText, {"place": 0}, read_deed, thing)

    def test_told_places(self):
        for text, place in (
                ("", 0), ("p", 1), ("put", 3), ("put ", 4), ("put 0", 5), ("put 0(", 6), ("put 0()", 7), ("put  0().", 4),
                ("put 0(*).", 6), ("put 0(1,2).", 8), ("put 0(1, 02).", 10), ("put 0().\n", 8), ("put 0()..", 8),
                ("seal 0(1).", 6), ("seal 0 0(1, *) .", 14), ("seal 0 0(**).", 10), ("seal 0 0(a).", 9), ("sell 0.", 2),
                ("sand 0 1.", 1), ("sto 1.", 3), ("stop 1 2.", 6), ("send 1.", 6), ("send 1 2 3.", 8), ("hand.", 4),
                ("hand 03.", 6), ("hand -3.", 5), ("hand 3", 6), ("hand 3.4.", 7), ("doubl 3.", 5), ("lose a.", 5),
                ("ask n.", 0), ("Hand 3.", 0), (f"hand 1{'2' * 100}.", 105), (f"put 0(3{'2' * 100}).", 106)):
            refuses(self, BadText, {"place": place}, read_deed, text)

    def test_each_changed_sign(self):
        for text in DEEDS:
            signs = "0a1 *(),.;\n~" if len(text) < 50 else "0 ."
            check_mutants(self, DEED, text, read_deed, BadText, signs)


if __name__ == "__main__":
    unittest.main()
