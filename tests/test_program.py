"""Promises 0.2 and 12.9: the promise of the whole program."""

import time
import unittest

from soonestsaid.foilcourses import foil_course, foil_course_fault
from soonestsaid.hearings import heard_by
from soonestsaid.judge import foil_fault, paper_fault
from soonestsaid.meaning import answers_of, told_facts
from soonestsaid.needs import find_need
from soonestsaid.nets import Net, play_course
from soonestsaid.questions import Question
from soonestsaid.sealing import enough_seals, lead_beyond
from soonestsaid.sparing import sparing_net
from soonestsaid.spread import unmet_lot
from soonestsaid.sure import find_verdict, heard_of
from tests.courses import WORDS, Reckoning, drawn_case, drawn_deed, drawn_reckoning, ending
from tests.helpers import drawing, drawn_row
from tests.judging import all_inputs, enough_worths, open_ones, shaky_rules
from tests.test_spread import drawn_question, scattered_dealing
from tests.worlds import one_house, small_dealing, world_of

MOST_OPEN = 7


class Ends:
    """What all inputs tell that a view lets be, found by going through all of them over enough worths."""

    def __init__(self, question):
        self.question = question
        self.found = {}

    def answers(self, view):
        """The answers on which they all agree, or None if there are too many inputs."""
        heard = heard_of(view)
        if heard not in self.found:
            world = world_of(view, self.question.constants)
            rows = open_ones(world, enough_worths(self.question, world))
            agreed = None
            if len(rows) <= MOST_OPEN:
                agreed = set(answers_of(self.question, view.rows))
                for given in all_inputs(world, rows):
                    if not agreed:
                        break
                    agreed &= set(answers_of(self.question, given))
            self.found[heard] = agreed
        return self.found[heard]


class EveryDeedTest(unittest.TestCase):
    def test_what_is_told_is_what_all_ends_agree_on(self):
        draw = drawing(421)
        counts = {"judged": 0, "told": 0, "not told": 0, "foils": 0}
        conditions = set()
        for at in range(240):
            question, dealing = self.case(draw)
            conditions |= {condition[0] for rule in question.rules for condition in rule[2]}
            net = Net(question, dealing) if at % 3 else sparing_net(question, dealing)
            reckoning, ends = Reckoning(dealing), Ends(question)
            self.judge(net, ends, counts)
            for _ in range(22):
                deed = drawn_deed(draw, reckoning, (0, 1))
                if reckoning.refusal(deed) is None:
                    reckoning.do(deed)
                    net.do(deed)
                    self.judge(net, ends, counts)
            if at % 3:
                self.judge_foils(draw, net, counts)
        self.assertEqual(conditions, {"row", "told", "not", "none", "unlike"})
        self.assertGreater(min(counts.values()), 30, counts)

    def case(self, draw):
        tables = draw.choice(((1,), (1, 1), (1, 1)))
        if draw.random() < 0.5:
            return drawn_case(draw, tables, most_modulus=2)
        return (Question(tables, shaky_rules(draw, tables, draw.random() < 0.5)),
                small_dealing(draw, tables, (0, 1), most_modulus=2, most_exceptions=1))

    def judge(self, net, ends, counts):
        """Each house has told exactly the answers on which all ends agree; nothing was unsaid."""
        for house in net.houses:
            agreed = ends.answers(house.view)
            if agreed is not None:
                self.assertEqual(house.told, tuple(sorted(agreed)))
                counts["judged"] += 1
                counts["told"] += len(agreed)
                counts["not told"] += len(answers_of(net.question, house.view.rows)) - len(agreed)
            self.assertLessEqual(set(house.told), set(answers_of(net.question, net.end())))
            for said in house.log:
                self.assertIsNone(paper_fault(net.question, house.view, said.answer, said.paper))

    def judge_foils(self, draw, net, counts):
        """For each answer that a house has not told there is a course in which it has heard the same."""
        for house in net.houses:
            facts = set(answers_of(net.question, net.end())) | set(answers_of(net.question, house.view.rows)) | {("answer", (9,))}
            for fact in sorted(facts):
                foil = foil_course(net, house.house, fact)
                self.assertEqual(foil is None, fact in house.told)
                if foil is None:
                    continue
                self.assertIsNone(foil_course_fault(net, house.house, fact, foil))
                self.assertIsNone(foil_fault(net.question, house.view, fact, foil.rows))
                played = Net(net.question, net.dealing)
                for deed in foil.deeds[:foil.heard]:
                    played.do(deed)
                # It has heard the same and so tells the same; what it tells holds in this end, too.
                self.assertEqual(heard_by(net.dealing, played.course, house.house), heard_by(net.dealing, net.course, house.house))
                self.assertEqual(played.houses[house.house].told, house.told)
                for deed in foil.deeds[foil.heard:]:
                    played.do(deed)
                self.assertNotIn(fact, told_facts(net.question, played.end()))
                self.assertNotIn(fact, played.houses[house.house].told)
                self.assertLessEqual(set(house.told), set(played.houses[house.house].told))
                counts["foils"] += 1

    def test_no_course_ever_unsays_anything(self):
        # From one beginning many courses go on; what a house has told is told by each of their ends.
        draw = drawing(422)
        told = 0
        for _ in range(60):
            question, dealing = self.case(draw)
            begin = drawn_reckoning(draw, dealing, 16, (0, 1))
            said = [house.told for house in play_course(question, dealing, begin.deeds).houses]
            told += sum(len(facts) for facts in said)
            for _ in range(6):
                reckoning = Reckoning(dealing, begin.deeds)
                for _ in range(25):
                    deed = drawn_deed(draw, reckoning, (0, 1, 2, 5), ("put",))
                    if reckoning.refusal(deed) is None:
                        reckoning.do(deed)
                for facts in said:
                    self.assertLessEqual(set(facts), set(answers_of(question, reckoning.rows())))
        self.assertGreater(told, 10)


class NeedTest(unittest.TestCase):
    def test_the_seals_that_a_question_needs(self):
        draw = drawing(423)
        found = {"rows": 0, "single": 0, "pattern": 0}
        words = [word for word in WORDS if word not in ("seal", "stop")]
        for _ in range(450):
            question, dealing = drawn_case(draw, told=False)
            word = find_need(question).word
            reckoning = drawn_reckoning(draw, dealing, 12, words=words)
            net = play_course(question, dealing, reckoning.deeds)
            for house in range(dealing.houses):
                for pattern in enough_seals(question, net.end()):
                    net.do(("seal", house, pattern))
            for sender in range(1, dealing.houses):
                net.do(("send", sender, 0))
                net.do(("hand", net.way[-1]))
            self.assertEqual(net.houses[0].told, answers_of(question, net.end()))
            found[word] += bool(net.houses[0].told)
        self.assertGreater(min(found.values()), 5, found)

    def test_single_seals_are_not_enough_where_patterns_are_needed(self):
        draw = drawing(424)
        seen = 0
        for _ in range(120):
            question, _ = drawn_case(draw, told=False)
            need = find_need(question)
            if need.word != "pattern":
                continue
            seen += 1
            couple = need.couples[1]
            rows = [drawn_row(draw, question.tables, range(6)) for _ in range(12)]
            led = lead_beyond(question, couple, rows)
            net = Net(question, one_house(question.tables))
            net.run([("put", row) for row in led.inner] + [("seal", 0, row) for row in rows])
            self.assertNotIn(led.fact, net.houses[0].told)
            net.run([("put", row) for row in led.outer])
            self.assertNotIn(led.fact, answers_of(question, net.end()))
        self.assertGreater(seen, 10)


class SilentTest(unittest.TestCase):
    def test_houses_that_need_no_letters(self):
        draw = drawing(425)
        found = {True: 0, False: 0}
        for _ in range(120):
            tables = draw.choice(((1, 1), (2,), (2, 1)))
            question, dealing = drawn_question(draw, tables), scattered_dealing(draw, tables, (0, 1))
            lot = unmet_lot(question, dealing)
            net = Net(question, dealing)
            for _ in range(8):
                net.do(("put", drawn_row(draw, tables, (0, 1, 2, 3))))
                if lot is None:
                    self.assertEqual({fact for house in net.houses for fact in house.told}, set(answers_of(question, net.end())))
            if lot is not None:
                net = play_course(question, dealing, [("put", row) for row in lot])
                self.assertLess({fact for house in net.houses for fact in house.told}, set(answers_of(question, lot)))
            found[lot is None] += 1
        self.assertGreater(min(found.values()), 15, found)


class BoundsTest(unittest.TestCase):
    def test_a_wide_course_in_seconds(self):
        draw = drawing(426)
        begin = time.process_time()
        question = Question((2, 2, 1), [
            ("answer", ("x", "z"), [("told", "far", ("x", "z")), ("not", 1, ("z", "x")), ("unlike", "x", "z")]),
            ("far", ("x", "y"), [("row", 0, ("x", "y"))]), ("far", ("x", "z"), [("told", "far", ("x", "y")), ("row", 0, ("y", "z"))]),
            ("answer", ("x", "x"), [("row", 2, ("x",)), ("none", (1, (3, -1)))])])
        dealing = small_dealing(draw, (2, 2, 1), range(6), most_houses=5)
        words = [word for word in WORDS if word != "stop"]
        reckoning = drawn_reckoning(draw, dealing, 300, range(6), words)
        net = play_course(question, dealing, reckoning.deeds)
        net.run(ending(dealing, len(reckoning.letters), 0))
        self.assertEqual(net.houses[0].told, answers_of(question, net.end()))
        for house in net.houses:
            for fact in house.told:
                self.assertIsNone(paper_fault(question, house.view, fact, find_verdict(question, house.view, fact).paper))
        self.assertLess(time.process_time() - begin, 60)


if __name__ == "__main__":
    unittest.main()
