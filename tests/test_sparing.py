"""Promises 16.1 to 16.6: sparing houses."""

import time
import unittest

from soonestsaid.dealings import Dealing
from soonestsaid.errors import BadDealing, BadPattern, BadRow, Forked, NoHome, NoHouse, Sealed, Torn
from soonestsaid.houses import House
from soonestsaid.judge import foil_fault
from soonestsaid.letters import Letter
from soonestsaid.meaning import answers_of
from soonestsaid.needs import find_need
from soonestsaid.nets import Net
from soonestsaid.patterns import covers
from soonestsaid.questions import Question
from soonestsaid.sparing import Sparing, ask_for, sparing_net
from soonestsaid.sure import Foil, find_verdict, is_sure, sure_answers
from soonestsaid.views import View
from soonestsaid.wholes import Whole
from tests.courses import WORDS, Reckoning, drawn_case, drawn_deed, drawn_reckoning
from tests.helpers import as_lists, content, drawing, drawn_pattern, drawn_row, is_plain, refuses, unchanged
from tests.judging import all_inputs, enough_worths, open_ones
from tests.test_nets import BOTH, DEALING, NO_NUMBERS, PAID
from tests.worlds import matches, one_house, small_view, world_of, worths_in

NOBODY = Question((1, 1), [("answer", ("x",), [("row", 0, ("x",)), ("none", (1, (-1,)))])])
SEVEN = ("answer", (7,))
STARS = ((0, (-1,)), (1, (-1,)))


def own_ask(question, view, rows):
    """The ask for a foil, by the words of the promise."""
    known = worths_in(view.rows) | set(question.constants)
    further = sorted(row for row in rows if row not in view.rows and set(row[1]) <= known)
    if further:
        return further[0]
    return min(pattern for pattern in question.patterns
               if any(matches(pattern, row) for row in rows) and not any(matches(pattern, row) for row in view.rows))


def asks_of_all_foils(question, view, fact):
    """The asks for all foils over enough worths, or None if there are too many inputs."""
    world = world_of(view, (*question.constants, *fact[1]))
    rows = open_ones(world, enough_worths(question, world))
    if len(rows) > 7:
        return None
    return {own_ask(question, view, given) for given in all_inputs(world, rows) if fact not in answers_of(question, given)}


def own_letter(house):
    """The letter that stands, by the words of the promise."""
    wholes = []
    for other in range(house.dealing.houses):
        whole = house.view.whole_of(other)
        seals = [ask for ask in house.asks if any(covers(seal, ask) for seal in whole.seals)]
        if whole.rows or seals:
            wholes.append((other, Whole(whole.rows, seals)))
    return Letter(house.house, tuple(wholes), house.asks)


class AskForTest(unittest.TestCase):
    def test_each_kind_of_foil(self):
        draw = drawing(391)
        found = {"row": 0, "pattern": 0, "star": 0}
        for _ in range(250):
            question, _ = drawn_case(draw)
            view = small_view(draw, question.tables, deeds=8, seals=0.25)
            for fact in answers_of(question, view.rows):
                world = world_of(view, (*question.constants, *fact[1]))
                rows = open_ones(world, enough_worths(question, world))
                rows = draw.sample(rows, min(5, len(rows)))
                for given in all_inputs(world, rows):
                    if fact in answers_of(question, given):
                        continue
                    ask = unchanged(self, ask_for, question, view, fact, given)
                    self.assertEqual(ask, own_ask(question, view, given))
                    self.assertTrue(is_plain(ask))
                    # It is open, and could break the answer.
                    if -1 in ask[1] or ask not in given:
                        self.assertEqual(view.empty(ask), "open")
                        found["pattern"] += 1
                        found["star"] += -1 in ask[1]
                    else:
                        self.assertEqual(view.mark(ask), "open")
                        found["row"] += 1
        self.assertGreater(min(found.values()), 6, found)

    def test_of_the_foils_that_are_found(self):
        draw = drawing(392)
        seen = 0
        for _ in range(300):
            question, _ = drawn_case(draw)
            view = small_view(draw, question.tables, deeds=8, seals=0.25)
            for fact in answers_of(question, view.rows):
                verdict = find_verdict(question, view, fact)
                if isinstance(verdict, Foil):
                    seen += 1
                    self.assertIsNone(foil_fault(question, view, fact, verdict.rows))
                    ask = ask_for(question, view, fact, verdict.rows)
                    self.assertIn("open", (view.mark(ask) if -1 not in ask[1] else None, view.empty(ask)))
        self.assertGreater(seen, 15)

    def test_written_out(self):
        view = View(BOTH, [(0, Whole([(0, (7,))]))])
        for rows, expected in (([(0, (7,)), (1, (7,))], (1, (7,))), ([(0, (7,)), (1, (8,))], (1, (-1,))),
                               ([(0, (7,)), (1, (3,)), (1, (7,))], (1, (7,)))):
            self.assertEqual(ask_for(NOBODY, view, SEVEN, rows), expected)
        # A row that breaks nothing may be asked for: the least over the known worths and the constants.
        question = Question((1, 1), [("answer", ("x",), [("row", 0, ("x",)), ("none", (1, (3,))), ("none", (1, (-1,)))])])
        self.assertEqual(ask_for(question, view, SEVEN, ((0, (3,)), (0, (7,)), (1, (3,)))), (0, (3,)))
        self.assertEqual(ask_for(question, view, SEVEN, ((0, (7,)), (1, (3,)), (1, (9,)))), (1, (3,)))
        self.assertEqual(ask_for(question, view, SEVEN, ((0, (7,)), (1, (9,)))), (1, (-1,)))
        # Of the patterns the least that a row of the foil breaks, and none that is broken already.
        question = Question((2,), [("answer", (), [("none", (0, (3, -1))), ("none", (0, (-1, 4)))]), ("answer", (), [
            ("none", (0, (5, -1)))])])
        view = View(one_house((2,)), [(0, Whole([(0, (5, 9))]))])
        self.assertEqual(ask_for(question, view, ("answer", ()), ((0, (5, 9)), (0, (8, 4)))), (0, (-1, 4)))
        self.assertEqual(ask_for(question, view, ("answer", ()), ((0, (3, 8)), (0, (5, 8)), (0, (5, 9)))), (0, (3, -1)))


class BesideTest(unittest.TestCase):
    """Sparing nets at every deed of drawn courses, beside nets of houses that hand on all they have."""

    def judge(self, net, eager, asked):
        """Each house tells what is sure in its view, and not sooner than the other net's; it asks for what it must."""
        for house, other in zip(net.houses, eager.houses):
            self.assertEqual(house.told, sure_answers(net.question, house.view))
            self.assertLessEqual(set(house.told), set(other.told))
            self.assertTrue(other.view.widens(house.view))
            self.assertEqual(house.view.whole_of(house.house), other.view.whole_of(house.house))
            self.assertEqual(house.view.rows, other.view.rows)
            self.assertEqual(house.moment, other.moment)
            self.assertEqual(house.letter(0), own_letter(house))
            self.assertEqual(house.asks, tuple(sorted(set(house.asks))))
            self.assertTrue(is_plain(house.asks))
            self.assertLessEqual(set(asked[house.house]), set(house.asks))

    def judge_asks(self, house, before, brought):
        """The house has asked for a foil of each answer of its rows that is not sure, and for nothing else."""
        possible, all_known = set(), True
        for fact in answers_of(house.question, house.view.rows):
            if not is_sure(house.question, house.view, fact):
                asks = asks_of_all_foils(house.question, house.view, fact)
                if asks is None:
                    all_known = False
                    continue
                self.assertTrue(asks & set(house.asks), (fact, asks, house.asks))
                possible |= asks
        if all_known:
            self.assertLessEqual(set(house.asks) - set(before) - set(brought), possible)
        return len(possible)

    def test_at_every_deed(self):
        draw = drawing(393)
        later, told_at_all, possible = 0, 0, 0
        words = (*WORDS, "send", "send", "hand", "hand", "put")
        for at in range(240):
            question, dealing = (PAID, DEALING) if at % 4 == 0 else (NOBODY, DEALING) if at % 4 == 1 else drawn_case(draw)
            net, eager, reckoning = sparing_net(question, dealing), Net(question, dealing), Reckoning(dealing)
            self.judge(net, eager, [() for _ in net.houses])
            for _ in range(40):
                deed = drawn_deed(draw, reckoning, draw.choice(((0, 1), (0, 1, 2))), words)
                if reckoning.refusal(deed) is not None:
                    continue
                asked, before = [house.asks for house in net.houses], [house.told for house in net.houses]
                brought = net.sent(deed[1]).carried.asks if deed[0] == "hand" else ()
                happens = reckoning.happens(deed)
                told = net.do(deed)
                eager.do(deed)
                reckoning.do(deed)
                self.assertEqual(told, tuple((at, fact) for at, house in enumerate(net.houses) for fact in house.told
                                             if fact not in before[at]))
                self.judge(net, eager, asked)
                for at in happens:
                    self.assertLessEqual(set(brought), set(net.houses[at].asks))
                    if len(net.course) % 5 == 0:
                        possible += self.judge_asks(net.houses[at], asked[at], brought)
                later += sum(house.told != other.told for house, other in zip(net.houses, eager.houses))
                told_at_all += len(told)
                for number in net.way:
                    self.assertEqual(net.sent(number).carried.sender, reckoning.letters[number][0])
            for house in range(dealing.houses):
                self.assertEqual((net.begun(house), net.past(house)), (eager.begun(house), eager.past(house)))
        self.assertGreater(min(later, told_at_all, possible), 8, (later, told_at_all, possible))

    def test_rounds_of_letters_until_nothing_new_comes(self):
        draw = drawing(394)
        told, rounds = 0, {}
        words = [word for word in WORDS if word != "stop"]
        for _ in range(110):
            question, dealing = drawn_case(draw)
            net = sparing_net(question, dealing)
            net.run(drawn_reckoning(draw, dealing, 12, words=words).deeds)
            for house in range(dealing.houses):
                for table, width in enumerate(dealing.tables):
                    net.do(("seal", house, (table, (-1,) * width)))
            many = self.go_round(net)
            rounds[many] = rounds.get(many, 0) + 1
            for house in net.houses:
                self.assertEqual(house.told, answers_of(question, net.end()))
                told += len(house.told)
        self.assertGreater(told, 100)
        self.assertGreater(min(rounds.get(many, 0) for many in (0, 1, 2)), 3, rounds)

    def go_round(self, net):
        """Sends and hands letters between all houses until none brings anything new; returns how many rounds did."""
        many, held = 0, None
        while held != [(content(house.view), house.asks) for house in net.houses]:
            held = [(content(house.view), house.asks) for house in net.houses]
            many += 1
            before = net.way
            for sender in range(len(net.houses)):
                for receiver in range(len(net.houses)):
                    if sender != receiver:
                        net.do(("send", sender, receiver))
            for number in net.way[len(before):]:
                net.do(("hand", number))
        return many - 1

    def test_asks_for_each_need(self):
        draw = drawing(395)
        found = {"rows": 0, "single": 0, "pattern": 0}
        stars = 0
        for _ in range(160):
            question, dealing = drawn_case(draw, told=False)
            word = find_need(question).word
            net = sparing_net(question, dealing)
            for deed in drawn_reckoning(draw, dealing, 20).deeds:
                net.do(deed)
                for house in net.houses:
                    if word == "rows":
                        self.assertEqual(house.asks, ())
                    if word == "single":
                        self.assertFalse([ask for ask in house.asks if -1 in ask[1]])
            found[word] += any(house.asks for house in net.houses) or word == "rows"
            stars += word == "pattern" and any(-1 in ask[1] for house in net.houses for ask in house.asks)
        self.assertGreater(min(found.values()), 5, found)
        self.assertGreater(stars, 1)

    def test_some_course_makes_a_house_ask_for_a_pattern(self):
        net = sparing_net(NOBODY, DEALING)
        net.run([("put", (0, (7,))), ("seal", 1, (1, (7,))), ("send", 0, 1), ("hand", 0), ("send", 1, 0), ("hand", 1)])
        self.assertIn((1, (-1,)), net.houses[0].asks)
        self.assertEqual(net.houses[0].told, ())
        net.run([("seal", 1, (1, (-1,))), ("send", 0, 1), ("hand", 2), ("send", 1, 0)])
        self.assertEqual(net.do(("hand", 3)), ((0, SEVEN),))


class HouseTest(unittest.TestCase):
    def refuses(self, error, told, house, call, *args):
        held = content(house)
        refuses(self, error, told, call, *args)
        self.assertEqual(content(house), held)

    def test_is_a_house(self):
        house = unchanged(self, Sparing, PAID, DEALING, 1)
        self.assertIsInstance(house, House)
        self.assertEqual((house.question, house.dealing, house.house, house.view, house.moment, house.log, house.told, house.asks),
                         (PAID, DEALING, 1, View(DEALING), 0, (), (), ()))
        refuses(self, BadDealing, {"what": "tables", "at": 0}, Sparing, PAID, one_house((1, 2)), None)
        for number in NO_NUMBERS[:-2]:
            refuses(self, NoHouse, {"house": number}, Sparing, PAID, DEALING, number)
            self.refuses(NoHouse, {"house": number}, house, house.letter, number)
        for name in ("put", "seal", "hear", "letter", "__init__"):
            self.assertIn(name, vars(Sparing))

    def test_asks_when_it_is_made(self):
        question = Question((1, 1), [("answer", (4,), [("not", 0, (4,))]), ("answer", (5,), [("none", (1, (-1,)))]),
                                     ("answer", (6,), [])])
        house = Sparing(question, DEALING, 0)
        self.assertEqual(house.told, (("answer", (6,)),))
        self.assertIn((0, (4,)), house.asks)
        self.assertEqual(len(house.asks), 2)
        self.assertTrue(set(house.asks) <= {(0, (4,)), (1, (4,)), (1, (5,)), (1, (6,)), (1, (-1,))})

    def test_asks_after_each_deed(self):
        house = Sparing(PAID, DEALING, 0)
        self.assertEqual((house.put((0, (7,))), house.asks), ((), ((1, (7,)),)))
        self.assertEqual((house.put([0, [9]]), house.asks), ((), ((1, (7,)), (1, (9,)))))
        house.seal((0, (-1,)))
        self.assertEqual((house.put((0, (7,))), house.asks, house.moment), ((), ((1, (7,)), (1, (9,))), 4))
        # An ask is kept when its answer is told, and those of letters are added.
        self.assertEqual(house.hear(Letter(1, ((1, Whole([], [(1, (7,))])),), ((0, (3,)),))), (SEVEN,))
        self.assertEqual(house.asks, ((0, (3,)), (1, (7,)), (1, (9,))))

    def test_asks_after_a_seal_of_its_own(self):
        question = Question((1, 1), [("answer", ("x",), [("row", 0, ("x",)), ("not", 1, ("x",)), ("not", 1, (3,))])])
        house = Sparing(question, one_house((1, 1)), 0)
        house.seal((0, (3,)))
        house.put((0, (7,)))
        # One of the two rows was asked for; when the house itself has sealed it, the other one is.
        first, = house.asks
        self.assertEqual(house.seal(first), ())
        self.assertEqual(house.asks, ((1, (3,)), (1, (7,))))
        self.assertEqual(house.seal((1, (-1,))), (SEVEN,))

    def test_letters_have_the_asked_seals_alone(self):
        asked, star = (1, (7,)), (1, (-1,))
        house = Sparing(PAID, DEALING, 1)
        house.seal(star)
        house.seal((0, (-1,)))
        self.assertEqual(house.letter(0), Letter(1, (), ()))
        house.hear(Letter(0, ((0, Whole([(0, (7,))])),), (asked,)))
        early = unchanged(self, house.letter, 0)
        # The asked pattern stands there, not the seal that covers it.
        self.assertEqual(early, Letter(1, ((0, Whole([(0, (7,))])), (1, Whole([], [asked]))), (asked,)))
        self.assertEqual(house.letter(1), early)
        held = content(early)
        house.hear(Letter(0, (), (star, (0, (9,)))))
        self.assertEqual(content(early), held)
        self.assertEqual(house.letter(0).wholes, ((0, Whole([(0, (7,))])), (1, Whole([], [(0, (9,)), asked, star]))))
        # A pattern that a seal lies within is not sealed.
        other = Sparing(PAID, DEALING, 1)
        other.seal(asked)
        other.hear(Letter(0, (), (star,)))
        self.assertEqual(other.letter(0), Letter(1, (), (star,)))
        # It hands on what it heard of others, too, where somebody asked.
        third = Sparing(PAID, DEALING, 0)
        third.hear(Letter(1, ((1, Whole([(1, (8,))], [asked])),), ()))
        self.assertEqual(third.letter(1), Letter(0, ((1, Whole([(1, (8,))])),), ()))
        third.hear(Letter(1, (), (asked,)))
        self.assertEqual(third.letter(1), Letter(0, ((1, Whole([(1, (8,))], [asked])),), (asked,)))

    def test_the_whole_of_the_own_house_is_left_out(self):
        house = Sparing(PAID, DEALING, 0)
        house.put((0, (7,)))
        house.seal((0, (-1,)))
        held = house.view.whole_of(0)
        # Asked patterns stand there in the place of the seals; even what could not be joined does no harm.
        for whole in (Whole([(0, (7,))], [(0, (3,))]), Whole(), Whole([(0, (9,))]), Whole([], [(0, (7,))])):
            house.hear(Letter(1, ((0, whole), (1, Whole([(1, (3,))]))), ()))
            self.assertEqual(house.view.whole_of(0), held)
            self.assertEqual(house.view.whole_of(1), Whole([(1, (3,))]))
        self.assertEqual(house.moment, 6)

    def test_refused_calls_change_nothing(self):
        house = Sparing(PAID, DEALING, 0)
        house.put((0, (7,)))
        house.seal((0, (-1,)))
        self.refuses(BadRow, {"what": "row"}, house, house.put, None)
        self.refuses(NoHome, {"row": (1, (7,))}, house, house.put, (1, (7,)))
        self.refuses(Sealed, {"pattern": (0, (-1,))}, house, house.put, (0, (8,)))
        self.refuses(BadPattern, {"what": "cell"}, house, house.seal, (0, (-2,)))
        house.hear(Letter(1, ((1, Whole([(1, (3,))], [(1, (4,))])),), ()))
        self.refuses(Forked, {"row": (1, (4,))}, house, house.hear, Letter(1, ((1, Whole([(1, (4,))])),), ((0, (5,)),)))
        house = Sparing(PAID, BOTH, 0)
        house.put((0, (7,)))
        self.refuses(Torn, {"row": (0, (7,))}, house, house.hear, Letter(1, ((1, Whole([], [(0, (-1,))])),), ((0, (5,)),)))

    def test_what_letters_hold_is_not_changed(self):
        draw = drawing(396)
        question, dealing = drawn_case(draw, (1, 1))
        net = sparing_net(question, dealing)
        net.run(drawn_reckoning(draw, dealing, 30).deeds)
        letters = [net.sent(number).carried for number in range(len([deed for deed in net.course if deed[0] in ("send", "double")]))]
        held = content(letters)
        for house in net.houses:
            for letter in letters:
                house.hear(letter)
        self.assertEqual(content(letters), held)

    def test_a_twin_goes_on_by_itself(self):
        house = Sparing(PAID, DEALING, 0)
        house.put((0, (7,)))
        held = content(house)
        twin = house.twin()
        self.assertIsInstance(twin, Sparing)
        self.assertEqual(content(twin), held)
        twin.put((0, (8,)))
        twin.hear(Letter(1, ((1, Whole([], [(1, (-1,))])),), ((0, (5,)),)))
        self.assertEqual(len(twin.told), 2)
        self.assertEqual(content(house), held)


class NetTest(unittest.TestCase):
    def test_sparing_net(self):
        net = unchanged(self, sparing_net, PAID, DEALING)
        self.assertIsInstance(net, Net)
        self.assertEqual([(house.__class__, house.house, house.moment) for house in net.houses], [(Sparing, 0, 0), (Sparing, 1, 0)])
        refuses(self, BadDealing, {"what": "tables", "at": 0}, sparing_net, PAID, one_house((1,)))

    def test_two_thousand_deeds_in_seconds(self):
        draw = drawing(397)
        begin = time.process_time()
        tables = (2, 1)
        dealing = Dealing(tables, 5, 2, [(0, 0, ((0, 1), (0, 1))), (1, 0, ((0, 1), (0,))), (1, 1, ((0, 1),)), (2, 1, ((0, 1),)),
                                         (3, 0, ((0,), (1,))), (4, 1, ((1,),))])
        question = Question(tables, [
            ("answer", ("x", "z"), [("told", "far", ("x", "z")), ("not", 1, ("z",)), ("none", (0, (11, -1)))]),
            ("far", ("x", "y"), [("row", 0, ("x", "y"))]), ("far", ("x", "z"), [("told", "far", ("x", "y")), ("row", 0, ("y", "z"))])])
        rows = [drawn_row(draw, tables, range(11)) for _ in range(40)]
        seals = [("seal", draw.randrange(5), drawn_pattern(draw, tables, range(12))) for _ in range(40)]
        net, reckoning = sparing_net(question, dealing), Reckoning(dealing)
        while len(net.course) < 2000:
            word = draw.choice(("put", "seal", "send", "send", "hand", "hand", "double", "lose"))
            deed = {"put": ("put", draw.choice(rows)), "seal": draw.choice(seals), "send": ("send", *draw.sample(range(5), 2))}.get(
                word, (word, draw.choice(net.way or (0,))))
            if reckoning.refusal(deed) is None:
                reckoning.do(deed)
                net.do(deed)
        for house in net.houses:
            self.assertEqual(house.told, sure_answers(question, house.view))
        self.assertLess(time.process_time() - begin, 60)


if __name__ == "__main__":
    unittest.main()
