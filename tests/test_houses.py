"""Promises 11.1 to 11.9: letters and houses."""

import time
import unittest

from soonestsaid.dealings import Dealing
from soonestsaid.errors import BadDealing, BadPattern, BadRow, BadView, Forked, NoHome, NoHouse, Sealed, Torn
from soonestsaid.houses import House, Said
from soonestsaid.judge import paper_fault
from soonestsaid.letters import Letter
from soonestsaid.questions import Question
from soonestsaid.sure import heard_of, sure_answers
from soonestsaid.views import View
from soonestsaid.wholes import Whole
from tests.helpers import as_lists, content, drawing, drawn_pattern, drawn_row, is_plain, refuses, shuffled, unchanged
from tests.judging import shaky_rules
from tests.worlds import FAR, one_house, small_dealing

ALONE = ("answer", ("x",), (("row", 0, ("x",)), ("not", 1, ("x",))))
PAID = Question((1, 1), [ALONE])
# House 0 has the orders, house 1 the payments.
DEALING = Dealing((1, 1), 2, 1, [(0, 0, [(0,)]), (1, 1, [(0,)])])
NO_HOUSES = (-1, 2, FAR, True, False, None, "0", 0.0, (0,), [1])


class Town:
    """Houses of one dealing, each judged after each of its deeds."""

    def __init__(self, test, question, dealing):
        self.test, self.question, self.dealing = test, question, dealing
        self.houses = [House(question, dealing, house) for house in range(dealing.houses)]
        self.wholes = [[Whole() for _ in self.houses] for _ in self.houses]
        self.told = [() for _ in self.houses]
        self.logs = [() for _ in self.houses]
        self.moments = [0 for _ in self.houses]
        self.way = []
        for house in self.houses:
            self.judge(house, house.told)

    def judge(self, house, said):
        """The house stands where it should: what it holds, what it tells, what it noted."""
        test, at = self.test, house.house
        view = View(self.dealing, list(enumerate(self.wholes[at])))
        test.assertEqual(house.view, view)
        test.assertEqual(house.moment, self.moments[at])
        test.assertEqual(house.told, sure_answers(self.question, view))
        test.assertEqual(said, tuple(fact for fact in house.told if fact not in self.told[at]))
        test.assertLessEqual(set(self.told[at]), set(house.told))
        before, log = self.logs[at], house.log
        test.assertIsInstance(log, tuple)
        test.assertEqual(log[:len(before)], before)
        test.assertEqual([(one.moment, one.answer) for one in log[len(before):]], [(house.moment, fact) for fact in said])
        for one in log[len(before):]:
            test.assertEqual(one.paper[0], heard_of(view))
            test.assertTrue(is_plain(one.paper))
        for one in log:
            test.assertIsNone(paper_fault(self.question, view, one.answer, one.paper))
        self.told[at], self.logs[at] = house.told, log

    def done(self, house, said):
        self.moments[house.house] += 1
        self.judge(house, said)

    def put(self, draw, row):
        homes = [self.houses[home] for home in self.dealing.homes(row)]
        if any(row not in house.view.whole_of(house.house).rows and house.view.whole_of(house.house).first_seal(row)
               for house in homes):
            return
        for house in homes:
            said = unchanged_but(self.test, house.put, draw.choice((row, as_lists(row))))
            self.wholes[house.house][house.house] = self.wholes[house.house][house.house].with_row(row)
            self.done(house, said)

    def seal(self, draw, number, pattern):
        said = unchanged_but(self.test, self.houses[number].seal, draw.choice((pattern, as_lists(pattern))))
        self.wholes[number][number] = self.wholes[number][number].with_seal(pattern)
        self.done(self.houses[number], said)

    def send(self, sender, receiver):
        letter = unchanged(self.test, self.houses[sender].letter, receiver)
        wholes = tuple((house, whole) for house, whole in enumerate(self.wholes[sender]) if whole.rows or whole.seals)
        self.test.assertEqual(letter, Letter(sender, wholes, ()))
        self.way.append((receiver, letter))

    def hand(self, receiver, letter):
        said = unchanged_but(self.test, self.houses[receiver].hear, letter)
        known = self.wholes[receiver]
        for house, whole in letter.wholes:
            known[house] = known[house].joined(whole)
        self.done(self.houses[receiver], said)


def unchanged_but(test, call, thing):
    """What a deed returns; it changes nothing that it was passed."""
    before = content(thing)
    found = call(thing)
    test.assertEqual(content(thing), before)
    test.assertTrue(is_plain(found))
    return found


def drawn_town(test, draw, deeds, tables=None):
    tables = tables or draw.choice(((1,), (1, 1), (2, 1)))
    question = Question(tables, shaky_rules(draw, tables, draw.random() < 0.4))
    town = Town(test, question, small_dealing(draw, tables))
    numbers = range(len(town.houses))
    for _ in range(deeds):
        kind = draw.choice(("put", "put", "seal", "send", "send", "hand", "again"))
        if kind == "put":
            town.put(draw, drawn_row(draw, tables, (0, 1, 2)))
        elif kind == "seal":
            town.seal(draw, draw.choice(numbers), drawn_pattern(draw, tables, (0, 1, 2)))
        elif kind == "send":
            town.send(draw.choice(numbers), draw.choice(numbers))
        elif town.way:
            letter = draw.choice(town.way)
            if kind == "hand":
                town.way.remove(letter)
            town.hand(*letter)
    return town


class CourseTest(unittest.TestCase):
    def test_at_every_moment(self):
        draw = drawing(201)
        told = late = 0
        for _ in range(120):
            town = drawn_town(self, draw, 20)
            told += sum(len(log) for log in town.logs)
            late += sum(one.moment > 0 for log in town.logs for one in log)
        self.assertGreater(min(told, late), 20)

    def test_letters_in_any_order_and_twice(self):
        draw = drawing(202)
        for _ in range(40):
            town = drawn_town(self, draw, 14)
            letters = [letter for _, letter in town.way] + [house.letter(0) for house in town.houses]
            ends = []
            for _ in range(3):
                house = House(town.question, town.dealing, 0)
                for letter in shuffled(draw, letters):
                    house.hear(letter)
                ends.append((content(house.view), house.told))
                moment = house.moment
                self.assertEqual([house.hear(letter) for letter in letters], [()] * len(letters))
                self.assertEqual(house.moment, moment + len(letters))
                self.assertEqual((content(house.view), house.told), ends[-1])
            self.assertEqual(ends[1:], ends[:1] * 2)

    def test_all_is_told_when_all_is_sealed(self):
        draw = drawing(203)
        for _ in range(40):
            town = drawn_town(self, draw, 12)
            for house in town.houses:
                for table, width in enumerate(town.dealing.tables):
                    town.seal(draw, house.house, (table, (-1,) * width))
            for house in town.houses:
                town.hand(0, house.letter(0))
            self.assertIsNone(town.houses[0].view.settled())

    def test_the_example(self):
        orders, payments = House(PAID, DEALING, 0), House(PAID, DEALING, 1)
        self.assertEqual(orders.put((0, (7,))), ())
        early = payments.letter(0)
        self.assertEqual(payments.seal((1, (7,))), ())
        self.assertEqual(orders.hear(early), ())
        self.assertEqual(orders.hear(payments.letter(0)), (("answer", (7,)),))
        ((said,)) = orders.log
        self.assertEqual((said.moment, said.answer, orders.moment), (3, ("answer", (7,)), 3))
        self.assertEqual(said.paper[1], ("told", ((0, (7,)),)))


class MakingTest(unittest.TestCase):
    def test_errors(self):
        refuses(self, BadDealing, {"what": "tables", "at": 0}, House, PAID, one_house((1, 2)), None)
        refuses(self, BadDealing, {"what": "tables", "at": 0}, House, PAID, one_house((1,)), 0)
        for house in NO_HOUSES:
            refuses(self, NoHouse, {"house": house}, House, PAID, DEALING, house)

    def test_attributes(self):
        house = unchanged(self, House, PAID, DEALING, 1)
        self.assertEqual((house.question, house.dealing, house.house, house.view, house.moment, house.log, house.told),
                         (PAID, DEALING, 1, View(DEALING), 0, (), ()))

    def test_what_is_sure_before_anything_is_heard(self):
        question = Question((1, 1), [("answer", (4,), []), ("answer", (2,), [("row", 0, (1,))]), ("answer", (2,), [
            ("not", 0, (1,))]), ("answer", (3,), [("not", 0, (1,))])])
        house = House(question, DEALING, 0)
        self.assertEqual(house.told, (("answer", (2,)), ("answer", (4,))))
        self.assertEqual([(said.moment, said.answer) for said in house.log], [(0, ("answer", (2,))), (0, ("answer", (4,)))])
        for said in house.log:
            self.assertEqual(said.paper[0], ())
            self.assertIsNone(paper_fault(question, View(DEALING), said.answer, said.paper))
        self.assertEqual(house.moment, 0)


class DeedTest(unittest.TestCase):
    def refuses(self, error, told, house, call, *args):
        before = content(house)
        refuses(self, error, told, call, *args)
        self.assertEqual(content(house), before)

    def test_put(self):
        house = House(PAID, DEALING, 0)
        house.seal((0, (-1,)))
        for row, what in ((None, "row"), ((0,), "row"), ((2, (7,)), "table"), ((True, (7,)), "table"), ((0, (7, 7)), "width"),
                          ((0, (-1,)), "worth"), ((1, (True,)), "worth")):
            self.refuses(BadRow, {"what": what}, house, house.put, row)
        # No home ahead of a seal.
        house.seal((1, (-1,)))
        self.refuses(NoHome, {"row": (1, (7,))}, house, house.put, (1, (7,)))
        self.refuses(NoHome, {"row": (1, (7,))}, house, house.put, [1, [7]])
        house.seal((0, (7,)))
        self.refuses(Sealed, {"pattern": (0, (-1,))}, house, house.put, (0, (7,)))
        self.assertEqual(house.moment, 3)
        house = House(PAID, DEALING, 0)
        house.seal((0, (8,)))
        house.seal((0, (7,)))
        self.refuses(Sealed, {"pattern": (0, (7,))}, house, house.put, [0, [7]])

    def test_a_row_put_again_under_a_seal(self):
        house = House(PAID, DEALING, 0)
        house.put((0, (7,)))
        view = house.view
        self.assertEqual(house.put([0, [7]]), ())
        self.assertEqual((house.moment, house.view), (2, view))
        house.seal((0, (-1,)))
        view = house.view
        self.assertEqual(house.put((0, (7,))), ())
        self.assertEqual((house.moment, house.view), (4, view))

    def test_put_torn(self):
        # Both are homes; the other one has sealed the row, and this house has heard of it.
        dealing = Dealing((1, 1), 2, 1, [(house, table, [(0,)]) for house in (0, 1) for table in (0, 1)])
        house, other = House(PAID, dealing, 0), House(PAID, dealing, 1)
        other.seal((0, (7,)))
        house.hear(other.letter(0))
        self.refuses(Torn, {"row": (0, (7,))}, house, house.put, (0, (7,)))
        house.put((0, (8,)))
        # And a seal over a row that the other one has.
        house, other = House(PAID, dealing, 0), House(PAID, dealing, 1)
        other.put((0, (7,)))
        house.hear(other.letter(0))
        self.refuses(Torn, {"row": (0, (7,))}, house, house.seal, (0, (-1,)))
        house.put((0, (7,)))
        house.seal((0, (-1,)))

    def test_seal(self):
        house = House(PAID, DEALING, 0)
        for pattern, what in ((None, "pattern"), ((0,), "pattern"), ((2, (7,)), "table"), ((0, (7, 7)), "width"),
                              ((0, (-2,)), "cell"), ((1, (True,)), "cell")):
            self.refuses(BadPattern, {"what": what}, house, house.seal, pattern)
        house.seal([0, [-1]])
        house.seal((0, (7,)))
        self.assertEqual(house.view.whole_of(0).seals, ((0, (-1,)), (0, (7,))))
        view = house.view
        self.assertEqual(house.seal((0, (7,))), ())
        self.assertEqual((house.moment, house.view), (3, view))

    def test_a_seal_by_no_home(self):
        house = House(PAID, DEALING, 0)
        house.put((0, (7,)))
        self.assertEqual(house.seal((1, (-1,))), ())
        self.assertEqual(house.view.mark((1, (7,))), "open")
        self.assertEqual(house.view.whole_of(0).seals, ((1, (-1,)),))
        other = House(PAID, DEALING, 1)
        other.seal((1, (7,)))
        self.assertEqual(house.hear(other.letter(0)), (("answer", (7,)),))

    def test_hear(self):
        house = House(PAID, DEALING, 0)
        house.put((0, (7,)))
        sealed = Letter(1, ((0, Whole([], [(0, (-1,))])),))
        self.refuses(Forked, {"row": (0, (7,))}, house, house.hear, sealed)
        self.refuses(BadView, {"what": "row", "at": 0}, house, house.hear, Letter(1, ((1, Whole([(0, (7,))])),)))
        self.refuses(BadView, {"what": "house", "at": 0}, house, house.hear, Letter(1, ((2, Whole()),)))
        dealing = Dealing((1, 1), 2, 1, [(house, table, [(0,)]) for house in (0, 1) for table in (0, 1)])
        house = House(PAID, dealing, 0)
        house.put((0, (7,)))
        self.refuses(Torn, {"row": (0, (7,))}, house, house.hear, Letter(1, ((1, Whole([], [(0, (-1,))])),)))
        # Asks are not looked at; neither is the sender.
        moment = house.moment
        house.hear(Letter(None, [[1, Whole([(0, (7,))])]], None))
        self.assertEqual((house.moment, house.view.whole_of(1)), (moment + 1, Whole([(0, (7,))])))

    def test_a_letter_that_brings_nothing_new(self):
        house = House(PAID, DEALING, 0)
        house.put((0, (7,)))
        before = content((house.view, house.log, house.told))
        for letter in (house.letter(0), Letter(1, ()), Letter(1, ((1, Whole()),))):
            self.assertEqual(house.hear(letter), ())
            self.assertEqual(content((house.view, house.log, house.told)), before)
        self.assertEqual(house.moment, 4)


class LetterTest(unittest.TestCase):
    def test_what_stands_now(self):
        house = House(PAID, DEALING, 0)
        house.put((0, (7,)))
        before = content(house)
        letter = house.letter(1)
        self.assertEqual(content(house), before)
        self.assertEqual(letter, Letter(0, ((0, Whole([(0, (7,))])),), ()))
        self.assertEqual((letter.sender, letter.wholes, letter.asks), (0, ((0, Whole([(0, (7,))])),), ()))
        self.assertEqual(house.letter(0), letter)
        held = content(letter)
        house.put((0, (8,)))
        house.seal((0, (-1,)))
        self.assertEqual(content(letter), held)
        self.assertNotEqual(house.letter(1), letter)
        other = House(PAID, DEALING, 1)
        other.hear(letter)
        self.assertEqual(other.view.rows, ((0, (7,)),))
        # What was heard is handed on.
        self.assertEqual(other.letter(0), Letter(1, letter.wholes, ()))
        self.assertEqual(House(PAID, DEALING, 1).letter(0), Letter(1, ()))

    def test_no_house(self):
        house = House(PAID, DEALING, 0)
        for receiver in NO_HOUSES:
            refuses(self, NoHouse, {"house": receiver}, house.letter, receiver)

    def test_results(self):
        letter = Letter(0, (), ((0, (1,)),))
        self.assertEqual(letter.asks, ((0, (1,)),))
        self.assertEqual(Letter(0, ()).asks, ())
        for unlike in (Letter(1, (), letter.asks), Letter(0, ((0, Whole()),), letter.asks), Letter(0, ()), None):
            self.assertFalse(letter == unlike)
        said = Said(3, ("answer", ()), ((), ("told", ())))
        self.assertEqual((said.moment, said.answer, said.paper), (3, ("answer", ()), ((), ("told", ()))))
        self.assertEqual(said, Said(3, ("answer", ()), ((), ("told", ()))))
        for unlike in (Said(2, said.answer, said.paper), Said(3, ("answer", (1,)), said.paper), Said(3, said.answer, ()), letter):
            self.assertFalse(said == unlike)


class BoundsTest(unittest.TestCase):
    def test_many_deeds_in_seconds(self):
        draw = drawing(204)
        begin = time.process_time()
        dealing = Dealing((2, 1), 3, 2, [(0, 0, ((0, 1), (0, 1))), (1, 0, ((0, 1), (0,))), (1, 1, ((0, 1),)), (2, 1, ((0, 1),))])
        question = Question((2, 1), [
            ("answer", ("x", "z"), [("row", 0, ("x", "y")), ("row", 0, ("y", "z")), ("not", 1, ("y",)), ("unlike", "x", "z")]),
            ("answer", ("x", "y"), [("row", 0, ("x", "y")), ("row", 1, ("y",))]),
            ("answer", ("x", "x"), [("row", 0, ("x", "x")), ("none", (1, (-1,)))])])
        houses = [House(question, dealing, number) for number in range(3)]
        rows = [drawn_row(draw, (2, 1), range(12)) for _ in range(40)]
        seals = [(draw.randrange(3), drawn_pattern(draw, (2, 1), range(12))) for _ in range(38)]
        letters = []
        for at in range(2000):
            kind = draw.choice(("put", "seal", "send", "hand", "hand", "hand"))
            if kind == "put" and rows:
                row = rows[0] if at % 3 else rows.pop()
                homes = [houses[number] for number in dealing.homes(row)]
                if all(row in house.view.whole_of(house.house).rows or house.view.whole_of(house.house).first_seal(row) is None
                       for house in homes):
                    for house in homes:
                        house.put(row)
            elif kind == "seal" and seals and at % 20 == 0:
                number, pattern = seals.pop()
                houses[number].seal(pattern)
            elif kind == "send" or not letters:
                letters.append(houses[draw.randrange(3)].letter(0))
            else:
                houses[draw.randrange(3)].hear(draw.choice(letters))
        for house in houses:
            for other in houses:
                house.hear(other.letter(0))
        self.assertTrue(all(house.told == sure_answers(question, house.view) for house in houses))
        self.assertLess(time.process_time() - begin, 60)


if __name__ == "__main__":
    unittest.main()
