"""Promises 13.3 to 13.6: past deeds and foil courses."""

import unittest

from soonestsaid.foilcourses import FoilCourse, foil_course, foil_course_fault, past_deeds
from soonestsaid.hearings import first_difference, heard_by
from soonestsaid.meaning import answers_of, told_facts
from soonestsaid.nets import Net, play_course
from soonestsaid.questions import Question
from soonestsaid.sure import is_sure
from tests.courses import WORDS, Reckoning, drawn_case, drawn_reckoning, ending
from tests.helpers import as_lists, content, drawing, is_plain, unchanged
from tests.test_nets import BOTH, DEALING, PAID

SEVEN = ("answer", (7,))
MAKING = ("send", "double")


def drawn_net(draw, many=25, **kinds):
    question, dealing = drawn_case(draw, share=0.8, **kinds)
    # Few seals, so that much that is told by the rows is not sure.
    words = [word for word in WORDS * 3 if word != "seal"] + ["seal", "put", "put", "put"]
    return play_course(question, dealing, drawn_reckoning(draw, dealing, many, words=words).deeds)


def own_past_deeds(net, house):
    """The past deeds by the words of the promise."""
    reckoning = Reckoning(net.dealing, net.course)
    numbers = reckoning.past(house)
    made = [letter for letter, (_, _, source, _) in enumerate(reckoning.letters) if source in numbers]
    found = []
    for number in numbers:
        deed = net.course[number]
        found.append((deed[0], made.index(deed[1])) if deed[0] in ("hand", "double") else deed)
    return tuple(found)


def some_facts(draw, net):
    """Facts that are told, that are not, and that no rule tells."""
    facts = set(told_facts(net.question, net.end()))
    for house in net.houses:
        facts |= set(told_facts(net.question, house.view.rows))
    facts = sorted(facts)
    return draw.sample(facts, min(4, len(facts))) + [draw.choice((("answer", ()), ("pair", (0,)), ("nobody", ())))]


class PastDeedsTest(unittest.TestCase):
    def test_played_by_a_new_net(self):
        draw = drawing(321)
        kinds = {}
        for _ in range(80):
            net = drawn_net(draw, 40, most_houses=4)
            for house in range(net.dealing.houses):
                deeds = unchanged(self, past_deeds, net, house)
                self.assertEqual(deeds, own_past_deeds(net, house))
                self.assertTrue(is_plain(deeds))
                played = play_course(net.question, net.dealing, deeds)
                self.assertEqual(heard_by(net.dealing, deeds, house), heard_by(net.dealing, net.course, house))
                one, other = played.houses[house], net.houses[house]
                self.assertEqual((one.view, one.told), (other.view, other.told))
                self.assertEqual([said.answer for said in one.log], [said.answer for said in other.log])
                self.judge_way(played)
                for deed in deeds:
                    kinds[deed[0]] = kinds.get(deed[0], 0) + 1
        self.assertEqual(set(kinds), {"put", "seal", "send", "hand", "double"})
        self.assertGreater(min(kinds.values()), 20, kinds)

    def judge_way(self, played):
        """Only letters of which a double was handed are still on the way."""
        for number in played.way:
            self.assertIn(("double", number), played.course)

    def test_written_out(self):
        net = play_course(PAID, DEALING, [
            ("send", 0, 1), ("send", 1, 0), ("put", (1, (7,))), ("send", 1, 0), ("double", 2), ("lose", 0), ("double", 3), ("lose", 2),
            ("stop", 1), ("hand", 4), ("put", (0, (3,))), ("hand", 1)])
        self.assertEqual(past_deeds(net, 0), (
            ("send", 1, 0), ("put", (1, (7,))), ("send", 1, 0), ("double", 1), ("double", 2), ("hand", 3), ("put", (0, (3,))),
            ("hand", 0)))
        self.assertEqual(past_deeds(net, 1), (("put", (1, (7,))),))
        self.assertEqual(past_deeds(Net(PAID, DEALING), 0), ())

    def test_a_row_that_only_one_home_got(self):
        net = play_course(PAID, BOTH, [("stop", 1), ("put", (0, (7,))), ("seal", 0, (1, (7,)))])
        self.assertEqual(past_deeds(net, 0), (("put", (0, (7,))), ("seal", 0, (1, (7,)))))
        played = play_course(PAID, BOTH, past_deeds(net, 0))
        self.assertEqual(played.houses[0].view, net.houses[0].view)
        self.assertEqual(played.houses[0].told, (SEVEN,))


class FoilCourseTest(unittest.TestCase):
    def test_none_exactly_if_the_house_is_sure(self):
        draw = drawing(322)
        found = {"sure": 0, "foil": 0, "puts": 0}
        for _ in range(120):
            net = drawn_net(draw)
            for house in range(net.dealing.houses):
                for fact in some_facts(draw, net):
                    foil = unchanged(self, foil_course, net, house, fact)
                    sure = is_sure(net.question, net.houses[house].view, fact)
                    self.assertEqual(foil is None, sure)
                    if fact[0] == "answer":
                        self.assertEqual(fact in net.houses[house].told, sure)
                    if foil is None:
                        found["sure"] += 1
                        continue
                    found["foil"] += 1
                    self.judge(net, house, fact, foil)
                    found["puts"] += len(foil.rows) > len(net.houses[house].view.rows)
        self.assertGreater(min(found.values()), 25, found)

    def judge(self, net, house, fact, foil):
        """The foil course is made as it must be, and does what it must do."""
        self.assertTrue(is_plain((foil.deeds, foil.heard, foil.rows)))
        view = net.houses[house].view
        past = past_deeds(net, house)
        self.assertEqual(foil.heard, len(past))
        letters = len([deed for deed in past if deed[0] in MAKING])
        puts = [("put", row) for row in foil.rows if row not in view.rows]
        self.assertEqual(list(foil.deeds), [*past, *puts, *ending(net.dealing, letters, house)])
        self.assertTrue(view.lets(foil.rows))
        self.assertNotIn(fact, told_facts(net.question, foil.rows))
        played = play_course(net.question, net.dealing, foil.deeds)
        self.assertEqual(played.end(), foil.rows)
        hearing = heard_by(net.dealing, net.course, house)
        self.assertEqual(heard_by(net.dealing, foil.deeds, house, foil.heard), hearing)
        self.assertEqual(played.houses[house].told, answers_of(net.question, foil.rows))
        self.assertEqual(played.stopped, ())
        self.assertIsNone(unchanged(self, foil_course_fault, net, house, fact, foil))
        # What the house tells in both courses is told by both ends.
        self.assertLessEqual(set(net.houses[house].told), set(played.houses[house].told))

    def test_written_out(self):
        net = play_course(PAID, DEALING, [("put", (0, (7,))), ("stop", 1)])
        star, other = (0, (-1,)), (1, (-1,))
        self.assertEqual(foil_course(net, 0, SEVEN), FoilCourse(
            (("put", (0, (7,))), ("put", (1, (7,))), ("seal", 0, star), ("seal", 0, other), ("seal", 1, star), ("seal", 1, other),
             ("send", 1, 0), ("hand", 0)), 1, ((0, (7,)), (1, (7,)))))
        # Nothing is put if the known rows do not tell the fact.
        foil = foil_course(net, 0, ("answer", (8,)))
        self.assertEqual((foil.heard, foil.rows, foil.deeds[1]), (1, ((0, (7,)),), ("seal", 0, star)))
        net = play_course(PAID, DEALING, [("put", (0, (7,))), ("seal", 1, (1, (7,))), ("send", 1, 0), ("hand", 0)])
        self.assertIsNone(foil_course(net, 0, SEVEN))
        self.assertIsNotNone(foil_course(net, 1, SEVEN))

    def test_results(self):
        foil = FoilCourse((("stop", 0),), 0, ())
        self.assertEqual((foil.deeds, foil.heard, foil.rows), ((("stop", 0),), 0, ()))
        self.assertEqual(foil, FoilCourse((("stop", 0),), 0, ()))
        for unlike in (FoilCourse((), 0, ()), FoilCourse(foil.deeds, 1, ()), FoilCourse(foil.deeds, 0, ((0, (1,)),)), None,
                       (foil.deeds, 0, ())):
            self.assertFalse(foil == unlike)


def own_fault(net, house, fact, foil):
    """The fault of a foil course whose parts are of the right kinds."""
    reckoning = Reckoning(net.dealing)
    for deed in foil.deeds:
        if reckoning.refusal(deed) is not None:
            return "deeds"
        reckoning.do(deed)
    if not 0 <= foil.heard <= len(foil.deeds):
        return "heard"
    if heard_by(net.dealing, foil.deeds, house, foil.heard) != heard_by(net.dealing, net.course, house):
        return "heard"
    if foil.rows != tuple(sorted(reckoning.rows())):
        return "rows"
    return "fact" if fact in told_facts(net.question, foil.rows) else None


class FaultTest(unittest.TestCase):
    def setUp(self):
        self.net = play_course(PAID, DEALING, [("put", (0, (7,))), ("send", 0, 1), ("hand", 0)])
        self.foil = foil_course(self.net, 0, SEVEN)

    def fault(self, fact=SEVEN, **parts):
        told = {"deeds": self.foil.deeds, "heard": self.foil.heard, "rows": self.foil.rows}
        return unchanged(self, foil_course_fault, self.net, 0, fact, FoilCourse(**{**told, **parts}))

    def test_changed_courses(self):
        draw = drawing(323)
        found = {}
        for _ in range(70):
            net = drawn_net(draw, 16)
            house = draw.randrange(net.dealing.houses)
            for fact in some_facts(draw, net):
                foil = foil_course(net, house, fact)
                for _ in range(4 if foil else 0):
                    changed = self.changed(draw, net, foil)
                    expected = own_fault(net, house, fact, changed)
                    self.assertEqual(foil_course_fault(net, house, fact, changed), expected)
                    found[expected] = found.get(expected, 0) + 1
        for word in ("deeds", "heard", "rows", "fact", None):
            self.assertGreater(found.get(word, 0), 2, found)

    def changed(self, draw, net, foil):
        """The foil course with one or two changes."""
        deeds, heard, rows = list(foil.deeds), foil.heard, foil.rows
        for _ in range(draw.choice((1, 1, 2))):
            kind = draw.choice(("drop", "double", "more", "bare", "heard", "rows", "swap", "other"))
            at = draw.randint(0, len(deeds))
            if kind == "drop" and deeds:
                del deeds[min(at, len(deeds) - 1)]
            elif kind == "double" and deeds:
                deeds.insert(at, draw.choice(deeds))
            elif kind == "more":
                before = deeds[:foil.heard]
                more = draw.choice((0, 0, 1))
                deeds = before + [("put", (0, (draw.choice((0, 1, 2)),) * net.dealing.tables[0])) for _ in range(more)] + [
                    deed for deed in deeds[foil.heard:] if deed[0] != draw.choice(("put", "send", "stop"))]
                rows = tuple(sorted({deed[1] for deed in deeds if deed[0] == "put"})) if draw.random() < 0.8 else rows
            elif kind == "bare":
                deeds = deeds[:foil.heard]
                rows = tuple(sorted({deed[1] for deed in deeds if deed[0] == "put"}))
            elif kind == "heard":
                heard += draw.choice((-1, 1, 2))
            elif kind == "rows":
                rows = tuple(sorted({*rows, (0, (9,) * net.dealing.tables[0])})) if draw.random() < 0.5 else rows[1:]
            elif kind == "swap" and len(deeds) > 1:
                at = draw.randrange(len(deeds) - 1)
                deeds[at], deeds[at + 1] = deeds[at + 1], deeds[at]
            elif kind == "other":
                deeds.insert(at, ("stop", draw.randrange(net.dealing.houses)))
        return FoilCourse(tuple(deeds), heard, rows)

    def test_deeds(self):
        deeds = self.foil.deeds
        for wrong in (None, 3, "stop", {}, {("stop", 0): 1}, (*deeds, ("hand", 9)), (*deeds, None), (*deeds, ("put", (0, (9,)))),
                      (*deeds, ("stop", 7)), (("send", 0, 0),), ("stop", 0), (*deeds, ("put", (5, (9,)))), (*deeds, ())):
            for heard, rows, fact in ((1, self.foil.rows, SEVEN), (None, None, ("nobody", ()))):
                self.assertEqual(self.fault(fact, deeds=wrong, heard=heard, rows=rows), "deeds")
        # Sealed is an error, too.
        self.assertEqual(self.fault(deeds=(*deeds[:1], ("seal", 1, (1, (-1,))), *deeds[1:])), "deeds")

    def test_heard(self):
        many = len(self.foil.deeds)
        for wrong in (0, 3, -1, many + 1, many, True, False, None, "1", 1.0, (1,), 10 ** 60):
            self.assertEqual(self.fault(heard=wrong), "heard", wrong)
            self.assertEqual(self.fault(heard=wrong, rows=None), "heard", wrong)
        # The second deed is put at the other house: it may stand on either side.
        self.assertEqual(self.foil.deeds[1], ("put", (1, (7,))))
        self.assertIsNone(self.fault(heard=2))

    def test_rows(self):
        rows = self.foil.rows
        self.assertEqual(rows, ((0, (7,)), (1, (7,))))
        for wrong in (rows[:1], rows[1:], rows[::-1], list(rows), as_lists(rows), (), None, (*rows, (1, (8,))), (*rows, rows[1]),
                      ([0, (7,)], rows[1]), ((0, [7]), rows[1]), ((False, (7,)), rows[1]), ((0, (7.0,)), rows[1]), 3, "ab",
                      {rows[0]: 1, rows[1]: 2}, {*rows}, (rows[0], (True, (7,)))):
            self.assertEqual(self.fault(rows=wrong), "rows", wrong)
            self.assertEqual(self.fault(("answer", (8,)), rows=wrong), "rows", wrong)

    def test_fact(self):
        deeds = (("put", (0, (7,))),)
        self.assertEqual(self.fault(deeds=deeds, heard=1, rows=((0, (7,)),)), "fact")
        self.assertIsNone(self.fault(("answer", (8,)), deeds=deeds, heard=1, rows=((0, (7,)),)))
        # Any fact that the rows tell.
        question = Question((1, 1), [*PAID.rules, ("pair", (), [("row", 0, (7,))])])
        net = play_course(question, DEALING, [])
        foil = FoilCourse((("put", (0, (7,))),), 0, ((0, (7,)),))
        self.assertEqual(foil_course_fault(net, 1, ("pair", ()), foil), "fact")
        self.assertIsNone(foil_course_fault(net, 1, ("pair", (7,)), foil))

    def test_courses_that_are_right_all_the_same(self):
        rows = ((0, (7,)), (1, (7,)))
        for deeds, heard in (
                # Nothing is sealed in the end.
                ([("put", (0, (7,))), ("put", (1, (7,)))], 1), ([("put", (1, (7,))), ("put", (0, (7,)))], 2),
                # Stops, losses and detours.
                ([["stop", 1], ("put", (0, (7,)))], None),
                ([("put", [0, [7]]), ("send", 0, 1), ("lose", 0), ("put", (0, (7,))), ("put", (1, (7,))), ("stop", 0), ("stop", 1)], 4),
                ([("put", (1, (7,))), ("send", 1, 0), ("double", 0), ("put", (0, (7,))), ("stop", 0), ("hand", 1), ("hand", 0)], 7),
                ([("send", 1, 0), ("seal", 1, (0, (-1,))), ("put", (0, (7,))), ("put", (1, (7,))), ("hand", 0)], 4)):
            if heard is not None:
                self.assertIsNone(self.fault(deeds=tuple(deeds), heard=heard, rows=rows), deeds)
                self.assertIsNone(self.fault(deeds=list(deeds), heard=heard, rows=rows), deeds)
        # A row that is lost with its only homes is put no more: the course is refused.
        self.assertEqual(self.fault(deeds=[("stop", 1), ("put", (0, (7,))), ("put", (1, (7,)))], heard=2, rows=rows), "deeds")

    def test_the_net_stays_as_it_is(self):
        held = content(self.net)
        foil_course(self.net, 1, SEVEN)
        foil_course_fault(self.net, 1, SEVEN, self.foil)
        first_difference((), ())
        self.assertEqual(content(self.net), held)


if __name__ == "__main__":
    unittest.main()
