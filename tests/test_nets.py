"""Promises 12.1 to 12.10: nets of houses."""

import time
import unittest

from soonestsaid.dealings import Dealing
from soonestsaid.errors import BadDealing, BadHouses, NoDeed, NoHouse, NoLetter, SayError, Sealed
from soonestsaid.houses import House
from soonestsaid.judge import paper_fault
from soonestsaid.letters import Letter
from soonestsaid.meaning import answers_of
from soonestsaid.nets import Net, Sent, play_course
from soonestsaid.questions import Question
from soonestsaid.sure import sure_answers
from soonestsaid.views import View
from soonestsaid.wholes import Whole
from tests.courses import WORDS, Reckoning, drawn_case, drawn_deed, drawn_reckoning, ending, in_some_form
from tests.helpers import content, drawing, drawn_pattern, drawn_row, is_plain, refuses, unchanged
from tests.worlds import FAR, one_house

ALONE = ("answer", ("x",), (("row", 0, ("x",)), ("not", 1, ("x",))))
PAID = Question((1, 1), [ALONE])
# House 0 has the orders, house 1 the payments.
DEALING = Dealing((1, 1), 2, 1, [(0, 0, [(0,)]), (1, 1, [(0,)])])
# Each house is a home of all rows.
BOTH = Dealing((1, 1), 2, 1, [(house, table, [(0,)]) for house in (0, 1) for table in (0, 1)])
NO_NUMBERS = (-1, 7, FAR, True, False, None, "0", 0.0, (0,), [1], {}, {1})


class Below(House):
    """A class below House."""


def refuses_deed(test, net, what, deed):
    refuses(test, NoDeed, {"what": what, "at": len(net.course)}, net.do, deed)


class MakingTest(unittest.TestCase):
    def test_new_houses(self):
        for houses in ((), []):
            net = unchanged(self, Net, PAID, DEALING, houses)
            self.assertEqual((net.question, net.dealing, net.course, net.way, net.stopped, net.end()),
                             (PAID, DEALING, (), (), (), ()))
            self.assertIsInstance(net.houses, tuple)
            self.assertEqual([(house.__class__, house.house, house.moment) for house in net.houses],
                             [(House, 0, 0), (House, 1, 0)])
            for house in net.houses:
                self.assertEqual((house.question, house.dealing, house.view), (PAID, DEALING, View(DEALING)))
        self.assertEqual(len(Net(PAID, DEALING).houses), 2)

    def test_houses_that_are_handed(self):
        for kind in (House, Below):
            given = [kind(PAID, DEALING, 0), kind(PAID, DEALING, 1)]
            net = Net(PAID, DEALING, given)
            held = list(given)
            given.append(None)
            self.assertIsInstance(net.houses, tuple)
            self.assertTrue(all(one is other for one, other in zip(net.houses, held)))
            self.assertEqual(len(net.houses), 2)
            net = Net(PAID, DEALING, tuple(held))
            net.do(("put", (0, (7,))))
            self.assertEqual(held[0].moment, 1)
        mixed = Net(PAID, DEALING, (Below(PAID, DEALING, 0), House(PAID, DEALING, 1)))
        self.assertIsInstance(mixed.houses[0], Below)
        # An equal question and an equal dealing do.
        Net(PAID, DEALING, [House(Question([1, 1], [ALONE]), Dealing((1, 1), 2, 1, DEALING.accepts[::-1]), at) for at in (0, 1)])

    def test_bad_houses(self):
        zero, one = House(PAID, DEALING, 0), House(PAID, DEALING, 1)
        later = House(PAID, DEALING, 1)
        later.seal((1, (7,)))
        other = Question((1, 1), [ALONE, ("answer", (4,), ())])
        for houses in ((zero,), [one], (zero, one, zero), (one, zero), (zero, zero), (zero, later), (zero, None), (0, 1),
                       (zero, House(other, DEALING, 1)), (House(other, DEALING, 0), one), (zero, House(PAID, BOTH, 1)),
                       (zero, Net), None, 0, "", "ab", {}, {0: zero, 1: one}, House, zero, True, range(0), iter(())):
            refuses(self, BadHouses, {}, Net, PAID, DEALING, houses)

    def test_bad_dealing_comes_first(self):
        for dealing in (one_house((1, 2)), one_house((1,))):
            for houses in ((), None, (1,)):
                refuses(self, BadDealing, {"what": "tables", "at": 0}, Net, PAID, dealing, houses)
            refuses(self, BadDealing, {"what": "tables", "at": 0}, play_course, PAID, dealing, [("stop", 0)])

    def test_what_is_sure_at_once_is_told_at_moment_0(self):
        question = Question((1, 1), [("answer", (4,), []), ALONE])
        net = Net(question, DEALING)
        self.assertEqual([house.told for house in net.houses], [(("answer", (4,)),)] * 2)
        self.assertEqual(net.do(("put", (0, (7,)))), ())


class PlayedTest(unittest.TestCase):
    """Nets beside a reckoning of the tests' own, at every deed of drawn courses."""

    def judge(self, net, reckoning):
        """The net stands where it should."""
        self.assertEqual(net.course, tuple(reckoning.deeds))
        self.assertTrue(is_plain(net.course))
        self.assertEqual((net.way, net.stopped), (tuple(reckoning.way), tuple(sorted(reckoning.stopped))))
        self.assertEqual(net.end(), tuple(sorted(reckoning.rows())))
        for house in range(net.dealing.houses):
            self.assertEqual(net.begun(house), reckoning.begun(house))
            self.assertEqual(net.houses[house].moment, len(reckoning.happened[house]))

    def judge_told(self, net, reckoning, before, told):
        """Each house has heard and told exactly what it should; these were told last."""
        expected = []
        for house in net.houses:
            view = View(net.dealing, list(enumerate(reckoning.wholes(reckoning.begun(house.house)))))
            self.assertEqual(house.view, view)
            self.assertEqual(house.told, sure_answers(net.question, view))
            self.assertLessEqual(set(before[house.house]), set(house.told))
            expected += [(house.house, fact) for fact in house.told if fact not in before[house.house]]
            for said in house.log:
                self.assertIsNone(paper_fault(net.question, view, said.answer, said.paper))
        self.assertEqual(told, tuple(sorted(expected)))

    def test_at_every_deed(self):
        draw = drawing(301)
        told_at_all, refused = 0, {}
        for _ in range(150):
            question, dealing = drawn_case(draw, most_exceptions=3)
            net, reckoning = Net(question, dealing), Reckoning(dealing)
            for _ in range(32):
                deed = self.shaken(draw, drawn_deed(draw, reckoning))
                what = reckoning.refusal(deed)
                if what is None:
                    before = [house.told for house in net.houses]
                    form = in_some_form(draw, deed)
                    held = content(form)
                    told = net.do(form)
                    self.assertEqual(content(form), held)
                    reckoning.do(deed)
                    self.judge(net, reckoning)
                    self.judge_told(net, reckoning, before, told)
                    told_at_all += len(told)
                elif isinstance(what, str):
                    refuses_deed(self, net, what, deed)
                    refused[what] = refused.get(what, 0) + 1
                else:
                    refuses(self, Sealed, {"pattern": what}, net.do, deed)
                    refused["seal"] = refused.get("seal", 0) + 1
            for house in range(dealing.houses):
                self.assertEqual(unchanged(self, net.past, house), reckoning.past(house))
        self.assertGreater(told_at_all, 40)
        for what in ("shape", "house", "row", "pattern", "letter", "self", "stopped", "seal"):
            self.assertGreater(refused.get(what, 0), 3, refused)

    def shaken(self, draw, deed):
        """The deed, at times with something wrong in it."""
        if draw.random() < 0.85:
            return deed
        deed = list(deed)
        wrong = draw.choice((True, None, -1, 9, "put", (0, (0, 0, 0, 0)), (0, (-2,)), (5, (0,)), (0,), (0, None), (True, (1,))))
        place = draw.randrange(len(deed) + 1)
        return tuple(deed[:place] + [wrong] + deed[place + (draw.random() < 0.8):])

    def test_chains_of_letters_past_and_begun(self):
        draw = drawing(302)
        words = ("put", "seal", "send", "send", "send", "hand", "hand", "hand", "hand", "double", "double", "lose", "stop")
        doubles = 0
        for _ in range(60):
            question, dealing = drawn_case(draw, (1, 1), most_houses=5)
            reckoning = drawn_reckoning(draw, dealing, 60, range(8), words)
            net = play_course(question, dealing, reckoning.deeds)
            self.judge(net, reckoning)
            for house in range(dealing.houses):
                past = net.past(house)
                self.assertEqual(past, reckoning.past(house))
                doubles += len([number for number in past if net.course[number][0] == "double"])
                self.assertFalse([number for number in past if net.course[number][0] in ("lose", "stop")])
        self.assertGreater(doubles, 20)

    def test_letters_carry_what_stood_when_they_were_sent(self):
        draw = drawing(303)
        letters = 0
        for _ in range(60):
            question, dealing = drawn_case(draw)
            reckoning = drawn_reckoning(draw, dealing, 40)
            net = play_course(question, dealing, reckoning.deeds)
            letters += len(reckoning.letters)
            for number, (sender, receiver, source, _) in enumerate(reckoning.letters):
                sent = unchanged(self, net.sent, number)
                self.assertEqual((sent.sender, sent.receiver, sent.source), (sender, receiver, source))
                self.assertEqual(sent.carried, Letter(sender, reckoning.carried(number), ()))
                self.assertEqual(sent, net.sent(number))
            for number in (-1, len(reckoning.letters), True, False, None, "0", 0.0, (0,), FAR):
                refuses(self, NoLetter, {"number": number}, net.sent, number)
        self.assertGreater(letters, 100)

    def test_all_is_told_when_all_is_sealed_and_handed(self):
        draw = drawing(304)
        told = 0
        for _ in range(80):
            question, dealing = drawn_case(draw)
            words = [word for word in WORDS if word != "stop"]
            reckoning = drawn_reckoning(draw, dealing, 14, words=words)
            net = play_course(question, dealing, reckoning.deeds)
            house = draw.randrange(dealing.houses)
            net.run(ending(dealing, len(reckoning.letters), house))
            self.assertEqual(net.houses[house].told, answers_of(question, net.end()))
            self.assertIsNone(net.houses[house].view.settled())
            told += len(net.houses[house].told)
            # Nothing that any house told is unsaid.
            for other in net.houses:
                self.assertLessEqual(set(other.told), set(net.houses[house].told))
        self.assertGreater(told, 25)

    def test_houses_that_hold_all_rows_among_them_are_enough(self):
        # House 2 has stopped and is no house's only home.
        dealing = Dealing((1, 1), 3, 1, [(0, 0, [(0,)]), (1, 1, [(0,)]), (2, 0, [(0,)]), (2, 1, [(0,)])])
        net = play_course(PAID, dealing, [
            ("put", (0, (7,))), ("stop", 2), ("put", (0, (8,))), ("put", (1, (7,))), ("seal", 0, (0, (-1,))), ("seal", 0, (1, (-1,))),
            ("seal", 1, (0, (-1,))), ("seal", 1, (1, (-1,))), ("send", 1, 0)])
        self.assertEqual(net.houses[0].told, ())
        self.assertEqual(net.do(("hand", 0)), ((0, ("answer", (8,))),))
        self.assertEqual(net.houses[0].told, answers_of(PAID, net.end()))


class DeedTest(unittest.TestCase):
    def test_the_example(self):
        net = play_course(PAID, DEALING, [
            ("put", (0, (7,))), ("send", 1, 0), ("seal", 1, (1, (7,))), ("send", 1, 0), ("hand", 0)])
        self.assertEqual(net.do(("hand", 1)), ((0, ("answer", (7,))),))
        self.assertEqual(net.past(0), (0, 1, 2, 3, 4, 5))
        self.assertEqual((net.begun(0), net.begun(1)), ((3, 1), (0, 1)))
        self.assertEqual(net.past(1), (2,))

    def test_the_course_is_kept_in_plain_tuples(self):
        net = Net(PAID, DEALING)
        given = ["put", [0, [7]]]
        net.do(given)
        given[1][1][0] = 8
        net.do(["seal", 1, [1, [-1]]])
        net.do(("seal", 1, [1, (7,)]))
        net.do(["send", 0, 1])
        self.assertEqual(net.course, (("put", (0, (7,))), ("seal", 1, (1, (-1,))), ("seal", 1, (1, (7,))), ("send", 0, 1)))
        self.assertTrue(is_plain(net.course))
        self.assertEqual(net.end(), ((0, (7,)),))

    def test_what_do_returns(self):
        question = Question((1, 1), [("answer", ("x",), [("row", 0, ("x",))]), ("answer", (4,), [("row", 0, ("x",))])])
        net = Net(question, BOTH)
        self.assertEqual(net.do(("put", (0, (7,)))), ((0, ("answer", (4,))), (0, ("answer", (7,))), (1, ("answer", (4,))),
                                                      (1, ("answer", (7,)))))
        self.assertEqual(net.do(("put", (0, (3,)))), ((0, ("answer", (3,))), (1, ("answer", (3,)))))
        for deed in (("put", (0, (3,))), ("send", 0, 1), ("double", 0), ("hand", 0), ("lose", 1), ("seal", 0, (0, (9,))), ("stop", 0)):
            self.assertEqual(net.do(deed), (), deed)

    def test_run_stops_at_the_first_refused_deed(self):
        net = Net(PAID, DEALING)
        course = [("put", (0, (7,))), ["seal", 1, [1, [7]]], ("hand", 0), ("put", (0, (9,)))]
        with self.assertRaises(NoDeed) as caught:
            net.run(course)
        self.assertEqual((caught.exception.what, caught.exception.at), ("letter", 2))
        self.assertEqual(net.course, (("put", (0, (7,))), ("seal", 1, (1, (7,)))))
        self.assertEqual(net.houses[0].moment, 1)
        self.assertIsNone(net.run(course[:1]))
        self.assertIsNone(net.run(()))
        self.assertEqual(len(net.course), 3)
        with self.assertRaises(Sealed):
            play_course(PAID, DEALING, [("seal", 0, (0, (-1,))), ("put", (0, (7,)))])

    def test_put_at_several_homes(self):
        net = Net(PAID, BOTH)
        net.do(("put", (0, (7,))))
        self.assertEqual([house.moment for house in net.houses], [1, 1])
        self.assertEqual([house.view.rows for house in net.houses], [((0, (7,)),)] * 2)
        net.do(("stop", 0))
        net.do(("put", (0, (8,))))
        self.assertEqual([house.moment for house in net.houses], [1, 2])
        self.assertEqual([house.view.whole_of(house.house).rows for house in net.houses], [((0, (7,)),), ((0, (7,)), (0, (8,)))])
        self.assertEqual(net.end(), ((0, (7,)), (0, (8,))))
        # Neither the one that a home lacks is laid there late, nor does anything else happen.
        net.do(("put", (0, (8,))))
        net.do(("put", (0, (7,))))
        self.assertEqual(([house.moment for house in net.houses], len(net.course)), ([1, 2], 5))
        net.do(("seal", 1, (0, (-1,))))
        self.assertEqual(net.do(("put", (0, (8,)))), ())
        self.assertEqual((net.houses[1].moment, len(net.course)), (3, 7))
        refuses(self, Sealed, {"pattern": (0, (-1,))}, net.do, ("put", (0, (9,))))
        net.do(("stop", 1))
        refuses_deed(self, net, "stopped", ("put", (0, (8,))))
        refuses_deed(self, net, "stopped", ("put", (0, (9,))))

    def test_a_row_put_again_while_one_home_has_stopped(self):
        net = Net(PAID, BOTH)
        net.run([("put", (0, (7,))), ("seal", 0, (0, (7,))), ("stop", 1), ("put", (0, (7,)))])
        self.assertEqual(([house.moment for house in net.houses], net.past(0)), ([2, 1], (0, 1)))

    def test_sealed(self):
        three = Dealing((1, 1), 3, 1, [(house, 0, [(0,)]) for house in (1, 2)] + [(0, 1, [(0,)])])
        net = Net(PAID, three)
        # A seal by a house that is no home of the row bars nothing.
        net.run([("seal", 0, (0, (7,))), ("put", (0, (7,)))])
        net.run([("seal", 2, (0, (-1,))), ("stop", 2)])
        refuses(self, Sealed, {"pattern": (0, (-1,))}, net.do, ("put", (0, (8,))))
        net.run([("seal", 1, (0, (8,)))])
        # The least home, and of its seals over the row the least.
        refuses(self, Sealed, {"pattern": (0, (8,))}, net.do, ("put", [0, [8]]))
        net.run([("seal", 1, (0, (9,))), ("seal", 1, (0, (-1,)))])
        refuses(self, Sealed, {"pattern": (0, (-1,))}, net.do, ("put", (0, (8,))))
        self.assertEqual(net.do(("put", (0, (7,)))), ())
        self.assertEqual(net.end(), ((0, (7,)),))

    def test_letters_late_in_any_order_doubled_and_lost(self):
        net = Net(PAID, DEALING)
        net.run([("send", 1, 0), ("put", (1, (7,))), ("send", 1, 0), ("seal", 1, (1, (-1,))), ("send", 1, 0), ("double", 0),
                 ("double", 3), ("put", (0, (8,)))])
        self.assertEqual(net.way, (0, 1, 2, 3, 4))
        self.assertEqual(net.do(("hand", 2)), ((0, ("answer", (8,))),))
        self.assertEqual((net.way, net.begun(0)), ((0, 1, 3, 4), (2, 2)))
        view = net.houses[0].view
        for number, left in ((4, (0, 1, 3)), (0, (1, 3)), (1, (3,))):
            self.assertEqual(net.do(("hand", number)), ())
            self.assertEqual((net.way, net.houses[0].view, net.begun(0)[1]), (left, view, 2))
        self.assertEqual(net.do(("lose", 3)), ())
        self.assertEqual((net.way, net.begun(0)), ((), (5, 2)))
        for deed in (("hand", 3), ("lose", 2), ("double", 2)):
            refuses_deed(self, net, "letter", deed)
        # What is gone is still numbered; a double carries what the letter carried.
        self.assertEqual(net.sent(4), Sent(1, 0, Letter(1, ()), 6))
        self.assertEqual(net.sent(3), Sent(1, 0, Letter(1, ()), 5))
        self.assertEqual(net.sent(1), Sent(1, 0, Letter(1, ((1, Whole([(1, (7,))])),)), 2))
        # The send stands behind both doubles.
        self.assertEqual(net.past(0), (0, 1, 2, 3, 4, 5, 6, 7, 8, 9, 10, 11))

    def test_a_double_of_a_double_in_the_past(self):
        net = play_course(PAID, DEALING, [("send", 1, 0), ("double", 0), ("double", 1), ("double", 0), ("hand", 2)])
        self.assertEqual((net.past(0), net.begun(0)), ((0, 1, 2, 4), (1, 0)))

    def test_stopped_houses(self):
        net = play_course(PAID, DEALING, [("put", (0, (7,))), ("seal", 1, (1, (7,))), ("send", 1, 0), ("send", 0, 1), ("stop", 1)])
        self.assertEqual(net.stopped, (1,))
        for deed in (("seal", 1, (1, (8,))), ("send", 1, 0), ("stop", 1), ("put", (1, (8,)))):
            refuses_deed(self, net, "stopped", deed)
        # Letters to it may be sent, and it does not hear them.
        held = content(net.houses[1])
        net.run([("send", 0, 1), ("hand", 1), ("double", 2), ("hand", 3), ("lose", 2)])
        self.assertEqual(content(net.houses[1]), held)
        self.assertEqual((net.way, net.begun(1)), ((0,), (0, 1)))
        # Its letters may still be doubled and handed.
        net.do(("double", 0))
        self.assertEqual(net.do(("hand", 4)), ((0, ("answer", (7,))),))
        net.do(("stop", 0))
        self.assertEqual(net.stopped, (0, 1))
        self.assertEqual(net.do(("hand", 0)), ())
        self.assertEqual(net.way, ())

    def test_no_house(self):
        net = Net(PAID, DEALING)
        for house in NO_NUMBERS[:-2]:
            refuses(self, NoHouse, {"house": house}, net.past, house)
            refuses(self, NoHouse, {"house": house}, net.begun, house)
        refuses(self, NoHouse, {"house": 2}, net.past, 2)


class RefusalTest(unittest.TestCase):
    def net(self):
        net = Net(PAID, DEALING)
        net.run([("put", (0, (7,))), ("send", 0, 1)])
        return net

    def test_shape(self):
        net = self.net()
        for deed in (None, 3, "put", "stop 0", {}, {"put": 1}, (), [], ("put",), ("put", (0, (7,)), 0), ("seal", 0), ("send", 0),
                     ("seal", 0, (0, (7,)), 1), ("send", 0, 1, 2), ("hand",), ("hand", 0, 0), ("double",), ("lose", 0, 1), ("stop",),
                     ("stop", 0, 1), ("take", 0), ("Put", (0, (7,))), (0, "stop"), (None, 0), (["stop"], 0), ([], 0), ({}, 0),
                     ("", 0), (True, 0), ("put ", (0, (7,))), ("ask", "a", [])):
            refuses_deed(self, net, "shape", deed)

    def test_each_part(self):
        net = self.net()
        for house in (*NO_NUMBERS, 2):
            for deed in (("seal", house, (0, (7,))), ("send", house, 0), ("send", 0, house), ("stop", house)):
                refuses_deed(self, net, "house", deed)
        for number in (*NO_NUMBERS, 1):
            for word in ("hand", "double", "lose"):
                refuses_deed(self, net, "letter", (word, number))
        for row in (None, 3, "ab", (), (0,), (0, 7), (2, (7,)), (-1, (7,)), (True, (7,)), (0, (7, 7)), (0, ()), (0, (-1,)),
                    (0, (True,)), (0, ("x",)), (0, [None]), (0, (7,), 1), {}, (0, {7}), ([0], (7,)), (0, ([7],))):
            refuses_deed(self, net, "row", ("put", row))
        for pattern in (None, 3, (), (0,), (2, (7,)), (True, (7,)), (0, (7, 7)), (0, (-2,)), (0, (True,)), (0, "a"), (0, ("a",))):
            refuses_deed(self, net, "pattern", ("seal", 0, pattern))

    def test_the_first_that_is_due(self):
        net = self.net()
        net.do(("stop", 1))
        for deed, what in ((("seal", 9, None), "house"), (("send", 9, None), "house"), (("send", 1, 9), "house"),
                           (("send", 1, 1), "self"), (("send", 0, 0), "self"), (("send", 9, 9), "house"),
                           (("seal", 1, None), "pattern"), (("seal", 1, (1, (7,))), "stopped"), (("put", (1, (-1,))), "row"),
                           (("put", (1, (7,))), "stopped"), (("seal", 1, None, 0), "shape"), (("stop", 1), "stopped"),
                           (("send", 1, 0), "stopped")):
            refuses_deed(self, net, what, deed)
        # All homes have stopped: that comes ahead of their seals.
        net = Net(PAID, DEALING)
        net.run([("put", (1, (6,))), ("seal", 1, (1, (-1,))), ("stop", 1)])
        refuses_deed(self, net, "stopped", ("put", (1, (7,))))
        refuses_deed(self, net, "stopped", ("put", (1, (6,))))

    def test_at_counts_the_deeds_done(self):
        net = Net(PAID, DEALING)
        for at in range(4):
            refuses(self, NoDeed, {"what": "letter", "at": at}, net.do, ("hand", 0))
            net.do(("put", (0, (7,))))

    def test_all_refusals_stand_under_say_error(self):
        net = self.net()
        for deed in (None, ("hand", 5), ("send", 0, 0)):
            with self.assertRaises(SayError):
                net.do(deed)


class ResultTest(unittest.TestCase):
    def test_sent(self):
        sent = Sent(1, 0, Letter(1, ()), 4)
        self.assertEqual((sent.sender, sent.receiver, sent.carried, sent.source), (1, 0, Letter(1, ()), 4))
        self.assertEqual(sent, Sent(1, 0, Letter(1, ()), 4))
        for unlike in (Sent(2, 0, Letter(1, ()), 4), Sent(1, 2, Letter(1, ()), 4), Sent(1, 0, Letter(2, ()), 4),
                       Sent(1, 0, Letter(1, ()), 5), (1, 0, Letter(1, ()), 4), None, Letter(1, ())):
            self.assertFalse(sent == unlike)

    def test_what_is_asked_changes_nothing(self):
        draw = drawing(305)
        question, dealing = drawn_case(draw, (1, 1))
        dealing = DEALING
        net = play_course(question, dealing, drawn_reckoning(draw, dealing, 30, words=("put", "seal", "send", "hand")).deeds)
        sent = net.sent(0)
        held = content(sent)
        for call, args in ((net.sent, (0,)), (net.past, (0,)), (net.begun, (0,)), (net.end, ())):
            self.assertEqual(content(unchanged(self, call, *args)), content(call(*args)))
        self.assertTrue(is_plain((net.past(0), net.begun(0), net.end())))
        for deed in (("put", (0, (4,))), ("seal", 0, (1, (-1,))), ("hand", 0)):
            if Reckoning(dealing, net.course).refusal(deed) is None:
                net.do(deed)
        self.assertEqual(content(sent), held)

    def test_a_twin_goes_on_by_itself(self):
        draw = drawing(306)
        for _ in range(20):
            question, dealing = drawn_case(draw)
            reckoning = drawn_reckoning(draw, dealing, 20)
            net = play_course(question, dealing, reckoning.deeds)
            held = content(net)
            twin = net.twin()
            self.assertEqual(content(net), held)
            for _ in range(20):
                deed = drawn_deed(draw, reckoning)
                if reckoning.refusal(deed) is None:
                    twin.do(deed)
                    reckoning.do(deed)
            self.assertEqual(content(net), held)
            self.assertEqual(content(twin), content(play_course(question, dealing, reckoning.deeds)))


class BoundsTest(unittest.TestCase):
    def test_two_thousand_deeds_in_seconds(self):
        draw = drawing(307)
        tables = (2, 1)
        dealing = Dealing(tables, 5, 2, [(0, 0, ((0, 1), (0, 1))), (1, 0, ((0, 1), (0,))), (1, 1, ((0, 1),)), (2, 1, ((0, 1),)),
                                         (3, 0, ((0,), (1,))), (4, 1, ((1,),))], [((0, (3, 5)), (0, 4))])
        question = Question(tables, [
            ("answer", ("x", "z"), [("row", 0, ("x", "y")), ("row", 0, ("y", "z")), ("not", 1, ("y",)), ("unlike", "x", "z")]),
            ("answer", ("x", "y"), [("row", 0, ("x", "y")), ("row", 1, ("y",))]),
            ("answer", ("x", "x"), [("row", 0, ("x", "x")), ("none", (1, (-1,)))])])
        rows = [drawn_row(draw, tables, range(12)) for _ in range(40)]
        seals = [("seal", draw.randrange(5), drawn_pattern(draw, tables, range(12))) for _ in range(40)]
        begin = time.process_time()
        net = Net(question, dealing)
        while len(net.course) < 2000:
            word = draw.choice(("put", "seal", "send", "send", "hand", "hand", "double", "lose"))
            deed = {"put": ("put", draw.choice(rows)), "seal": draw.choice(seals), "send": ("send", *draw.sample(range(5), 2))}.get(
                word, (word, draw.choice(net.way or (0,))))
            try:
                net.do(deed)
            except (NoDeed, Sealed):
                pass
        for house in net.houses:
            self.assertEqual(house.told, sure_answers(question, house.view))
            self.assertGreater(len(net.past(house.house)), 500)
        self.assertGreater(len(net.end()), 10)
        # A long chain of doubles.
        net = Net(question, dealing)
        net.do(("send", 1, 0))
        net.run([("double", number) for number in range(1000)])
        net.run([("hand", number) for number in range(999)])
        self.assertEqual(len(net.past(0)), 1998)
        self.assertLess(time.process_time() - begin, 60)


if __name__ == "__main__":
    unittest.main()
