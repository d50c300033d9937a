"""Promises 13.1 and 13.2: hearings."""

import time
import unittest

from soonestsaid.hearings import first_difference, heard_by
from tests.courses import Reckoning, drawn_case, drawn_reckoning
from tests.helpers import as_lists, drawing, is_plain, unchanged
from tests.test_nets import BOTH, DEALING


def own_hearing(dealing, deeds, house):
    """The hearing, each deed looked at beside what was done ahead of it."""
    reckoning = Reckoning(dealing)
    notes = []
    for deed in deeds:
        if deed[0] == "put" and deed[1] not in reckoning.rows() and house in dealing.homes(deed[1]):
            if house not in reckoning.stopped:
                notes.append(deed)
        elif deed[0] == "seal" and deed[1] == house:
            notes.append(("seal", deed[2]))
        elif deed[0] == "hand" and reckoning.letters[deed[1]][1] == house and house not in reckoning.stopped:
            wholes = tuple((other, whole.rows, whole.seals) for other, whole in reckoning.carried(deed[1]))
            notes.append(("letter", reckoning.letters[deed[1]][0], wholes))
        reckoning.do(deed)
    return tuple(notes)


class HeardByTest(unittest.TestCase):
    def test_each_number_of_first_deeds(self):
        draw = drawing(311)
        kinds = {}
        for _ in range(60):
            _, dealing = drawn_case(draw, most_houses=4, most_exceptions=3)
            course = tuple(drawn_reckoning(draw, dealing, 25).deeds)
            for house in range(dealing.houses):
                for many in range(len(course) + 1):
                    expected = own_hearing(dealing, course[:many], house)
                    found = heard_by(dealing, course, house, many)
                    self.assertEqual(found, expected)
                whole = unchanged(self, heard_by, dealing, course, house)
                self.assertEqual(whole, expected)
                self.assertTrue(is_plain(whole))
                self.assertEqual(unchanged(self, heard_by, dealing, as_lists(course), house, None), whole)
                for note in whole:
                    kinds[note[0]] = kinds.get(note[0], 0) + 1
        self.assertGreater(min(kinds[word] for word in ("put", "seal", "letter")), 100, kinds)

    def test_each_kind_of_note(self):
        course = [
            ("put", (0, (7,))), ("put", (0, (7,))), ("seal", 1, (1, (-1,))), ("seal", 0, (0, (7,))), ("seal", 0, (0, (7,))),
            ("send", 1, 0), ("put", (0, (9,))), ("double", 0), ("send", 0, 1), ("lose", 2), ("hand", 1), ("hand", 0)]
        first = (("put", (0, (7,))), ("seal", (0, (7,))), ("seal", (0, (7,))), ("put", (0, (9,))),
                 ("letter", 1, ((1, (), ((1, (-1,)),)),)), ("letter", 1, ((1, (), ((1, (-1,)),)),)))
        self.assertEqual(heard_by(DEALING, course, 0), first)
        self.assertEqual(heard_by(DEALING, course, 1), (("seal", (1, (-1,))),))
        self.assertEqual(heard_by(DEALING, course, 0, 0), ())
        self.assertEqual(heard_by(DEALING, course, 0, 11), first[:-1])
        self.assertEqual(heard_by(DEALING, (), 0), ())

    def test_a_letter_with_nothing_in_it(self):
        self.assertEqual(heard_by(DEALING, [("send", 1, 0), ("hand", 0)], 0), (("letter", 1, ()),))

    def test_stopped_houses_hear_nothing(self):
        course = [("put", (0, (7,))), ("send", 0, 1), ("stop", 1), ("hand", 0), ("put", (0, (8,))), ("send", 0, 1), ("hand", 1)]
        self.assertEqual(heard_by(BOTH, course, 1), (("put", (0, (7,))),))
        self.assertEqual(heard_by(BOTH, course, 0), (("put", (0, (7,))), ("put", (0, (8,)))))
        # A letter that a house sent ahead of its stop says what it knew then; a put behind it is none of its rows.
        course = [("put", (0, (7,))), ("stop", 0), ("put", (0, (8,))), ("send", 1, 0), ("seal", 1, (0, (-1,)))]
        self.assertEqual(heard_by(BOTH, course, 1), (("put", (0, (7,))), ("put", (0, (8,))), ("seal", (0, (-1,)))))

    def test_what_a_letter_hands_on(self):
        course = [("put", (0, (7,))), ("send", 0, 1), ("hand", 0), ("seal", 0, (0, (-1,))), ("seal", 1, (1, (3,))), ("send", 1, 0),
                  ("seal", 1, (1, (2,))), ("hand", 1)]
        self.assertEqual(heard_by(DEALING, course, 0)[-1], ("letter", 1, ((0, ((0, (7,)),), ()), (1, (), ((1, (3,)),)))))

    def test_two_thousand_deeds_in_seconds(self):
        draw = drawing(312)
        begin = time.process_time()
        _, dealing = drawn_case(draw, (2, 1), most_houses=5)
        course = drawn_reckoning(draw, dealing, 400, range(12)).deeds
        many = len(course)
        for house in range(dealing.houses):
            self.assertEqual(heard_by(dealing, course, house, many), own_hearing(dealing, course, house))
        sends = [("send", at % 2, 1 - at % 2) for at in range(900)]
        hands = [("hand", at) for at in range(900)]
        puts = [("put", (0, (at,))) for at in range(40)]
        seals = [("seal", at % 2, (1, (at,))) for at in range(40)]
        rest = [deed for couple in zip(sends, hands) for deed in couple]
        self.assertEqual(len(heard_by(BOTH, puts + seals + rest, 0)), 40 + 20 + 450)
        self.assertLess(time.process_time() - begin, 30)


class FirstDifferenceTest(unittest.TestCase):
    def test_places(self):
        one, two, three = ("put", (0, (7,))), ("seal", (0, (7,))), ("letter", 1, ())
        for first, second, expected in (
                ((), (), None), ((one,), (one,), None), ((one,), (), 0), ((), (one,), 0), ((one, two), (one,), 1),
                ((one,), (one, two, three), 1), ((one, two), (one, three), 1), ((two, two), (one, two), 0),
                ((one, two, three), (one, two, three), None), ((one, two, three), (one, two, ("letter", 0, ())), 2),
                ((one, two, three), (one, two, ("letter", 1, ((0, ((0, (7,)),), ()),))), 2)):
            self.assertEqual(unchanged(self, first_difference, first, second), expected)
            self.assertEqual(first_difference(second, first), expected)

    def test_of_drawn_courses(self):
        draw = drawing(313)
        for _ in range(60):
            _, dealing = drawn_case(draw)
            course = drawn_reckoning(draw, dealing, 20).deeds
            whole = heard_by(dealing, course, 0)
            many = draw.randint(0, 20)
            part = heard_by(dealing, course, 0, min(many, len(course)))
            self.assertEqual(first_difference(whole, part), None if whole == part else len(part))
            self.assertEqual(whole[:len(part)], part)


if __name__ == "__main__":
    unittest.main()
