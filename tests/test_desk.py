"""Promises 16.7 to 16.10: desks."""

import time
import unittest

from soonestsaid.dealings import Dealing
from soonestsaid.desk import Desk, Trial
from soonestsaid.errors import (
    BadDeed, BadQuestion, FullDesk, NoDeed, NoQuestion, NotFlat, NotOfRows, SayError, Sealed, TakenName)
from soonestsaid.needs import find_need
from soonestsaid.nets import Net
from soonestsaid.questions import Question
from soonestsaid.sparing import Sparing, sparing_net
from soonestsaid.spread import carried_fault, unmet_lot
from tests.courses import READY, WORDS, Reckoning, drawn_deed, in_some_form, plain
from tests.helpers import content, drawing, drawn_pattern, drawn_row, is_plain, refuses, unchanged
from tests.judging import shaky_rules
from tests.test_nets import BOTH, DEALING, NO_NUMBERS
from tests.test_spread import drawn_question
from tests.worlds import FAR, small_dealing

ALONE = ("answer", ("x",), (("row", 0, ("x",)), ("not", 1, ("x",))))
BESIDE = ("answer", ("x",), (("row", 0, ("x",)), ("row", 1, ("x",))))
EACH = ("answer", ("x",), (("row", 0, ("x",)),))
DEEP = (("answer", ("x",), (("told", "far", ("x",)),)), ("far", ("x",), (("row", 0, ("x",)),)))
SEVEN = ("answer", (7,))
NAMES = ("a", "b", "order", "abcdefgh", "ask", "told", "x", "y")
NO_NAMES = ("", "abcdefghi", "A", "a b", "a1", "_", "ab\n", None, 7, True, ("a",), ["a"], b"a", {}, " a", "a.")
DESK_WORDS = ("ask", "ask", "ask", "ask", "drop", "told", "told", "need", "dealt", "carries")


class Beside:
    """A desk of the tests' own: for each question a net in which the course is played."""

    def __init__(self, dealing, sparing):
        self.dealing, self.sparing = dealing, sparing
        self.questions = []
        self.reckoning = Reckoning(dealing)
        self.nets = {}
        self.log = []

    def refusal(self, deed):
        """The error that is due and its attributes, or None."""
        if not isinstance(deed, (list, tuple)) or not deed or not isinstance(deed[0], str):
            return BadDeed, {}
        word, *parts = deed
        kinds = {"ask": "nr", "drop": "n", "told": "nh", "need": "n", "dealt": "n", "carries": "nn"}
        if word not in kinds:
            if word not in WORDS:
                return BadDeed, {}
            wrong = self.reckoning.refusal(deed)
            if wrong is None:
                return None
            return (NoDeed, {"what": wrong, "at": len(self.reckoning.deeds)}) if isinstance(wrong, str) else (Sealed, {"pattern": wrong})
        if len(parts) != len(kinds[word]) or not all(self.is_part(kind, part) for kind, part in zip(kinds[word], parts)):
            return BadDeed, {}
        names = [name for name, _ in self.questions]
        if word == "ask":
            if parts[0] in names:
                return TakenName, {"name": parts[0]}
            return (FullDesk, {}) if len(names) == 4 else self.error_of(Question, self.dealing.tables, parts[1])
        for kind, part in zip(kinds[word], parts):
            if kind == "n" and part not in names:
                return NoQuestion, {"name": part}
        return self.error_of(self.told, deed) if word in ("need", "dealt", "carries") else None

    def is_part(self, kind, part):
        if kind == "n":
            return isinstance(part, str) and 1 <= len(part) <= 8 and all("a" <= sign <= "z" for sign in part)
        return kind == "r" or type(part) is int and 0 <= part < self.dealing.houses

    def error_of(self, call, *args):
        try:
            call(*args)
        except SayError as error:
            return error.__class__, error.__dict__
        return None

    def told(self, deed):
        """What a right deed tells, nothing changed but for what net deeds change."""
        word, *parts = deed
        of = dict(self.questions)
        if word == "told":
            return self.nets[parts[0]].houses[parts[1]].told
        if word == "need":
            return find_need(of[parts[0]]).word
        if word == "dealt":
            return unmet_lot(of[parts[0]], self.dealing)
        carry = carried_fault(of[parts[0]], of[parts[1]])
        return None if carry is None else carry.lot

    def do(self, deed):
        """Does a right deed; returns what it must tell."""
        word = deed[0]
        told = ()
        if word == "ask":
            question = Question(self.dealing.tables, deed[2])
            net = sparing_net(question, self.dealing) if self.sparing else Net(question, self.dealing)
            net.run(self.reckoning.deeds)
            self.questions.append((deed[1], question))
            self.nets[deed[1]] = net
            told = tuple((deed[1], house, fact) for house in range(self.dealing.houses) for fact in net.houses[house].told)
        elif word == "drop":
            self.questions = [couple for couple in self.questions if couple[0] != deed[1]]
        elif word in WORDS:
            told = tuple((name, house, fact) for name, _ in self.questions for house, fact in self.nets[name].do(deed))
            self.reckoning.do(deed)
        else:
            told = self.told(deed)
        self.log.append((plain(deed), told))
        return told


def drawn_rules_for(draw, tables):
    kind = draw.choice(("ready", "shaky", "flat", "rows"))
    if kind == "ready":
        return draw.choice(READY[tables])
    if kind == "rows":
        return drawn_question(draw, tables).rules
    return shaky_rules(draw, tables, draw.random() < 0.4, told=kind == "shaky")


def drawn_desk_deed(draw, beside, share=0.35):
    """A deed of a desk, which may well be refused."""
    dealing = beside.dealing
    if draw.random() > share:
        return drawn_deed(draw, beside.reckoning, (0, 1, 2))
    names = [name for name, _ in beside.questions]
    word = draw.choice(DESK_WORDS)
    name = draw.choice(names) if names and draw.random() < 0.85 else draw.choice(NAMES)
    if word == "ask":
        return word, draw.choice(NAMES), draw.choice((drawn_rules_for(draw, dealing.tables),) * 9 + ((), None, [("answer",)]))
    if word == "told":
        return word, name, draw.randrange(dealing.houses + (draw.random() < 0.1))
    if word == "carries":
        return word, name, draw.choice(names) if names and draw.random() < 0.9 else draw.choice(NAMES)
    return word, name


class PlayedTest(unittest.TestCase):
    def judge(self, desk, beside):
        self.assertEqual(desk.course, tuple(beside.reckoning.deeds))
        self.assertEqual(desk.questions, tuple(beside.questions))
        self.assertEqual(desk.log, tuple(beside.log))
        self.assertTrue(is_plain((desk.course, desk.log)))
        self.assertEqual((list(desk), len(desk)), (beside.log, len(beside.log)))
        self.assertEqual((desk.dealing, desk.sparing), (beside.dealing, beside.sparing))

    def test_at_every_deed(self):
        draw = drawing(401)
        done, refused, told_at_all = {}, {}, 0
        for at in range(100):
            tables = draw.choice(((1,), (1, 1), (2, 1)))
            dealing = small_dealing(draw, tables)
            sparing = at % 2 == 1
            desk, beside = Desk(dealing, sparing), Beside(dealing, sparing)
            for _ in range(45):
                deed = drawn_desk_deed(draw, beside)
                wrong = beside.refusal(deed)
                if wrong is None:
                    form = in_some_form(draw, deed)
                    held = content(form)
                    told = desk.do_deed(form)
                    self.assertEqual(content(form), held)
                    self.assertEqual(told, beside.do(deed))
                    self.assertTrue(is_plain(told))
                    done[deed[0]] = done.get(deed[0], 0) + 1
                    told_at_all += bool(told)
                else:
                    refuses(self, *wrong, desk.do_deed, deed)
                    refused[wrong[0]] = refused.get(wrong[0], 0) + 1
            self.judge(desk, beside)
            for name, net in desk._nets.items():
                self.assertEqual(content(net.houses), content(beside.nets[name].houses))
                self.assertEqual({house.__class__ is Sparing for house in net.houses}, {sparing})
        self.assertGreater(min(done[word] for word in (*DESK_WORDS, *WORDS)), 5, done)
        for error in (BadDeed, BadQuestion, FullDesk, NoDeed, NoQuestion, NotFlat, NotOfRows, Sealed, TakenName):
            self.assertGreater(refused.get(error, 0), 1, refused)
        self.assertGreater(told_at_all, 50)

    def test_a_question_put_late_tells_what_it_would_have_told(self):
        draw = drawing(402)
        told = 0
        for at in range(60):
            tables = draw.choice(((1,), (1, 1), (2, 1)))
            dealing = small_dealing(draw, tables)
            rules = drawn_rules_for(draw, tables)
            early, late, reckoning = Desk(dealing, at % 2 == 1), Desk(dealing, at % 2 == 1), Reckoning(dealing)
            early.do_deed(("ask", "a", rules))
            for _ in range(30):
                deed = drawn_deed(draw, reckoning)
                if reckoning.refusal(deed) is None:
                    reckoning.do(deed)
                    early.do_deed(deed)
                    self.assertEqual(late.do_deed(deed), ())
            found = late.do_deed(("ask", "a", rules))
            self.assertEqual([fact for _, _, fact in found], [
                fact for house in range(dealing.houses) for fact in early.do_deed(("told", "a", house))])
            self.assertEqual([(name, house) for name, house, _ in found], [
                ("a", house) for house in range(dealing.houses) for _ in early.do_deed(("told", "a", house))])
            self.assertEqual(early, late)
            told += len(found)
            for _ in range(10):
                deed = drawn_deed(draw, reckoning)
                if reckoning.refusal(deed) is None:
                    reckoning.do(deed)
                    self.assertEqual(early.do_deed(deed), late.do_deed(deed))
        self.assertGreater(told, 20)


class DeedTest(unittest.TestCase):
    def test_written_out(self):
        desk = Desk(DEALING)
        self.assertEqual((desk.dealing, desk.sparing, desk.course, desk.questions, desk.log), (DEALING, False, (), (), ()))
        self.assertEqual((len(desk), list(desk)), (0, []))
        self.assertEqual(desk.do_deed(("put", [0, [7]])), ())
        self.assertEqual(desk.do_deed(("ask", "paid", [list(BESIDE)])), ())
        self.assertEqual(desk.do_deed(["ask", "a", [EACH]]), (("a", 0, SEVEN),))
        self.assertEqual(desk.do_deed(("ask", "order", (ALONE,))), ())
        self.assertEqual(desk.do_deed(("put", (1, (8,)))), ())
        self.assertEqual(desk.do_deed(("put", (0, (8,)))), (("a", 0, ("answer", (8,))),))
        self.assertEqual(desk.do_deed(("seal", 1, (1, (-1,)))), ())
        self.assertEqual(desk.do_deed(("send", 1, 0)), ())
        # Questions in the order in which they were put.
        self.assertEqual(desk.do_deed(("hand", 0)), (("paid", 0, ("answer", (8,))), ("order", 0, SEVEN)))
        self.assertEqual(desk.do_deed(("told", "a", 0)), (SEVEN, ("answer", (8,))))
        self.assertEqual(desk.do_deed(("told", "a", 1)), ())
        self.assertEqual((desk.do_deed(("need", "a")), desk.do_deed(("need", "order"))), ("rows", "single"))
        self.assertEqual(desk.do_deed(("dealt", "a")), None)
        lot = desk.do_deed(("dealt", "paid"))
        self.assertEqual(lot, ((0, lot[0][1]), (1, lot[0][1])))
        self.assertEqual((desk.do_deed(("carries", "paid", "a")), desk.do_deed(("carries", "a", "paid"))), (None, lot))
        self.assertEqual(desk.do_deed(("drop", "a")), ())
        self.assertEqual([name for name, _ in desk.questions], ["paid", "order"])
        self.assertEqual(len(desk), 18)
        self.assertEqual(desk.log[:3], ((("put", (0, (7,))), ()), (("ask", "paid", (BESIDE,)), ()), (
            ("ask", "a", (EACH,)), (("a", 0, SEVEN),))))
        self.assertEqual(desk.log[-1], (("drop", "a"), ()))
        self.assertEqual(list(desk), list(desk.log))
        self.assertEqual(desk.course, (("put", (0, (7,))), ("put", (1, (8,))), ("put", (0, (8,))), ("seal", 1, (1, (-1,))),
                                       ("send", 1, 0), ("hand", 0)))

    def test_a_question_dropped_and_put_again(self):
        desk = Desk(DEALING)
        desk.do_deed(("ask", "a", [EACH]))
        desk.do_deed(("ask", "b", [BESIDE]))
        desk.do_deed(("put", (0, (7,))))
        self.assertEqual(desk.do_deed(("drop", "a")), ())
        refuses(self, NoQuestion, {"name": "a"}, desk.do_deed, ("told", "a", 0))
        self.assertEqual(desk.do_deed(("put", (0, (8,)))), ())
        self.assertEqual(desk.do_deed(("ask", "a", [EACH])), (("a", 0, SEVEN), ("a", 0, ("answer", (8,)))))
        self.assertEqual([name for name, _ in desk.questions], ["b", "a"])
        desk.do_deed(("drop", "b"))
        self.assertEqual(desk.do_deed(("ask", "b", [("answer", (4,), ())])), (("b", 0, ("answer", (4,))), ("b", 1, ("answer", (4,)))))
        self.assertEqual(desk.do_deed(("put", (0, (9,)))), (("a", 0, ("answer", (9,))),))

    def test_what_is_passed_in_later_changes(self):
        desk = Desk(DEALING)
        deed = ["ask", "a", [["answer", ["x"], [["row", 0, ["x"]]]]]]
        desk.do_deed(deed)
        deed[2][0][2][0][1] = 1
        deed[1] = "b"
        row = ["put", [0, [7]]]
        self.assertEqual(desk.do_deed(row), (("a", 0, SEVEN),))
        row[1][1][0] = 8
        self.assertEqual((desk.course, desk.log[0][0]), ((("put", (0, (7,))),), ("ask", "a", (EACH,))))

    def test_sparing(self):
        course = [("put", (0, (7,))), ("seal", 1, (1, (-1,))), ("send", 1, 0), ("hand", 0)]
        eager, desk = Desk(DEALING), Desk(DEALING, sparing=True)
        for each in (eager, desk):
            each.do_deed(("ask", "a", [ALONE]))
        self.assertEqual([eager.do_deed(deed) for deed in course][-1], (("a", 0, SEVEN),))
        self.assertEqual([desk.do_deed(deed) for deed in course][-1], ())
        # Whoever holds the seals hears of the row first.
        self.assertEqual([desk.do_deed(deed) for deed in (("send", 0, 1), ("hand", 1), ("send", 1, 0))], [(), (("a", 1, SEVEN),), ()])
        self.assertEqual(desk.do_deed(("hand", 2)), (("a", 0, SEVEN),))


class RefusalTest(unittest.TestCase):
    def desk(self):
        desk = Desk(DEALING)
        for deed in (("ask", "a", [ALONE]), ("put", (0, (7,))), ("ask", "deep", DEEP), ("send", 0, 1), ("ask", "rows", [BESIDE])):
            desk.do_deed(deed)
        return desk

    def test_bad_deed(self):
        desk = self.desk()
        for deed in (None, 3, "drop", "ask a", {}, {"drop": "a"}, (), [], (None,), (3, "a"), (True,), (["drop"], "a"), ([],), ("",),
                     ("Drop", "a"), ("drop ", "a"), ("trial", "a"), ("question", "a"), ("drop",), ("drop", "a", "a"), ("told", "a"),
                     ("told", "a", 0, 0), ("need",), ("need", "a", "a"), ("dealt",), ("dealt", "a", 0), ("carries", "a"),
                     ("carries", "a", "a", "a"), ("ask", "b"), ("ask", "b", [ALONE], ()), ("ask",)):
            refuses(self, BadDeed, {}, desk.do_deed, deed)
        for name in NO_NAMES:
            for deed in (("ask", name, [ALONE]), ("ask", name, None), ("drop", name), ("told", name, 0), ("told", name, 9), ("need", name),
                         ("dealt", name), ("carries", name, "a"), ("carries", "a", name), ("carries", "z", name)):
                refuses(self, BadDeed, {}, desk.do_deed, deed)
        for house in NO_NUMBERS:
            refuses(self, BadDeed, {}, desk.do_deed, ("told", "a", house))
            refuses(self, BadDeed, {}, desk.do_deed, ("told", "z", house))
        refuses(self, BadDeed, {}, desk.do_deed, ("told", "a", 2))

    def test_names(self):
        desk = self.desk()
        for rules in ([ALONE], None, ()):
            refuses(self, TakenName, {"name": "deep"}, desk.do_deed, ("ask", "deep", rules))
        for deed, name in ((("drop", "z"), "z"), (("told", "z", 1), "z"), (("need", "abcdefgh"), "abcdefgh"), (("dealt", "z"), "z"),
                           (("carries", "y", "z"), "y"), (("carries", "a", "z"), "z"), (("carries", "z", "a"), "z"),
                           (("carries", "deep", "z"), "z")):
            refuses(self, NoQuestion, {"name": name}, desk.do_deed, deed)

    def test_full_desk(self):
        desk = self.desk()
        desk.do_deed(("ask", "more", [EACH]))
        for rules in ([ALONE], None, ()):
            refuses(self, FullDesk, {}, desk.do_deed, ("ask", "b", rules))
            refuses(self, TakenName, {"name": "a"}, desk.do_deed, ("ask", "a", rules))
        desk.do_deed(("drop", "deep"))
        desk.do_deed(("ask", "b", [EACH]))
        refuses(self, FullDesk, {}, desk.do_deed, ("ask", "c", [EACH]))

    def test_what_the_parts_raise(self):
        desk = self.desk()
        for rules, rule, what in ((None, None, "rules"), ((), None, "rules"), ([ALONE] * 7, None, "rules"), ([None], 0, "form"),
                                  ([ALONE, ("answer", (1,), [("row", 5, ())])], 1, "table"), ([("far", (), ())], None, "answer"),
                                  ([("answer", ("x",), ())], 0, "loose"), ("rules", None, "rules")):
            refuses(self, BadQuestion, {"rule": rule, "what": what}, desk.do_deed, ("ask", "b", rules))
        refuses(self, NotFlat, {}, desk.do_deed, ("need", "deep"))
        for deed in (("dealt", "a"), ("dealt", "deep"), ("carries", "a", "rows"), ("carries", "rows", "a"), ("carries", "deep", "a")):
            refuses(self, NotOfRows, {}, desk.do_deed, deed)

    def test_net_deeds(self):
        for desk, at in ((self.desk(), 2), (Desk(DEALING), 0), (Desk(DEALING, True), 0)):
            for deed, what in ((("put",), "shape"), (("put", None, 3), "shape"), (("put", None), "row"), (("seal", 9, 0), "house"),
                               (("seal", 0, 0), "pattern"), (("hand", 5), "letter"), (("send", 1, 1), "self"), (["stop"], "shape")):
                refuses(self, NoDeed, {"what": what, "at": at}, desk.do_deed, deed)
            desk.do_deed(("seal", 0, (0, (-1,))))
            refuses(self, Sealed, {"pattern": (0, (-1,))}, desk.do_deed, ("put", (0, (9,))))
            desk.do_deed(("stop", 0))
            # at counts the net deeds done, not the others.
            self.assertEqual(len(desk.course), at + 2)
            refuses(self, NoDeed, {"what": "stopped", "at": at + 2}, desk.do_deed, ("stop", 0))


class TrialTest(unittest.TestCase):
    def test_against_a_desk_that_does_the_deeds(self):
        draw = drawing(403)
        found = {"refused": 0, "none": 0, "told": 0}
        for at in range(60):
            tables = draw.choice(((1,), (1, 1), (2, 1)))
            dealing = small_dealing(draw, tables)
            desk, beside = Desk(dealing, at % 2 == 1), Beside(dealing, at % 2 == 1)
            for _ in range(draw.randint(0, 25)):
                deed = drawn_desk_deed(draw, beside)
                if beside.refusal(deed) is None:
                    desk.do_deed(deed)
                    beside.do(deed)
            deeds, tolds, refused = [], [], None
            held = content(desk)
            for _ in range(draw.randint(0, 12)):
                deed = drawn_desk_deed(draw, beside, 0.5)
                wrong = beside.refusal(deed)
                if wrong is not None and draw.random() < 0.8:
                    continue
                deeds.append(in_some_form(draw, deed))
                if refused is None and wrong is not None:
                    refused = len(deeds) - 1
                if refused is None:
                    tolds.append(beside.do(deed))
            trial = unchanged(self, desk.trial_deeds, draw.choice((deeds, tuple(deeds))))
            self.assertEqual((trial.tolds, trial.refused), (tuple(tolds), refused))
            self.assertTrue(is_plain(trial.tolds))
            self.assertEqual(content(desk), held)
            found["refused" if refused is not None else "none"] += 1
            found["told"] += any(tolds)
        self.assertGreater(min(found.values()), 4, found)

    def test_written_out(self):
        desk = Desk(DEALING)
        desk.do_deed(("ask", "a", [EACH]))
        held = content(desk)
        self.assertEqual(desk.trial_deeds([]), Trial((), None))
        self.assertEqual(desk.trial_deeds([("put", (0, (7,))), ("told", "a", 0), ("drop", "a"), ("told", "a", 0), ("put", (0, (8,)))]),
                         Trial(((("a", 0, SEVEN),), (SEVEN,), ()), 3))
        self.assertEqual(desk.trial_deeds((None,)), Trial((), 0))
        self.assertEqual(desk.trial_deeds((("put", (0, (7,))), ["stop", 0], ("stop", 0))), Trial(((("a", 0, SEVEN),), ()), 2))
        self.assertEqual(content(desk), held)
        # What a trial would do has not been done.
        self.assertEqual(desk.do_deed(("put", (0, (7,)))), (("a", 0, SEVEN),))
        self.assertEqual(desk.trial_deeds([("need", "a")]), Trial(("rows",), None))

    def test_a_twin_goes_on_by_itself(self):
        desk = Desk(DEALING, True)
        for deed in (("ask", "a", [EACH]), ("put", (0, (7,))), ("send", 0, 1)):
            desk.do_deed(deed)
        held = content(desk)
        twin = desk.twin()
        self.assertEqual(content(twin), held)
        for deed in (("drop", "a"), ("hand", 0), ("ask", "b", [ALONE]), ("seal", 1, (1, (-1,)))):
            twin.do_deed(deed)
        self.assertEqual(content(desk), held)

    def test_results(self):
        trial = Trial(((),), 1)
        self.assertEqual((trial.tolds, trial.refused), (((),), 1))
        self.assertEqual(trial, Trial(((),), 1))
        for unlike in (Trial((), 1), Trial(((),), None), Trial(((),), 0), None, (((),), 1)):
            self.assertFalse(trial == unlike)


class EqualityTest(unittest.TestCase):
    def desk(self, dealing=DEALING, sparing=False, deeds=(("ask", "a", [ALONE]), ("put", (0, (7,))))):
        desk = Desk(dealing, sparing)
        for deed in deeds:
            desk.do_deed(deed)
        return desk

    def test_by_all_but_the_log(self):
        one = self.desk()
        self.assertEqual(one, self.desk())
        self.assertEqual(one, self.desk(deeds=(("put", (0, (7,))), ("ask", "b", [EACH]), ("ask", "a", [ALONE]), ("need", "a"), ("drop", "b"))))
        for unlike in (self.desk(BOTH), self.desk(sparing=True), self.desk(deeds=(("ask", "a", [ALONE]),)),
                       self.desk(deeds=(("put", (0, (7,))),)), self.desk(deeds=(("ask", "b", [ALONE]), ("put", (0, (7,))))),
                       self.desk(deeds=(("ask", "a", [EACH]), ("put", (0, (7,))))), Desk(DEALING), None, (), one.log, ()):
            self.assertFalse(one == unlike)
            self.assertTrue(one != unlike)
        # The order in which the questions were put counts.
        first, second = ("ask", "a", [ALONE]), ("ask", "b", [EACH])
        self.assertFalse(self.desk(deeds=(first, second)) == self.desk(deeds=(second, first)))
        self.assertEqual(Desk(DEALING), Desk(DEALING, False))

    def test_iteration_and_length(self):
        one = self.desk()
        self.assertEqual((len(one), [deed for deed, _ in one]), (2, [("ask", "a", (ALONE,)), ("put", (0, (7,)))]))
        self.assertEqual(tuple(one), one.log)
        self.assertEqual([list(one), list(one)], [list(one.log)] * 2)
        self.assertEqual((len(Desk(BOTH)), tuple(Desk(BOTH))), (0, ()))


class BoundsTest(unittest.TestCase):
    def test_four_questions_and_two_thousand_deeds_in_seconds(self):
        draw = drawing(404)
        tables = (2, 1)
        dealing = Dealing(tables, 5, 2, [(0, 0, ((0, 1), (0, 1))), (1, 0, ((0, 1), (0,))), (1, 1, ((0, 1),)), (2, 1, ((0, 1),)),
                                         (3, 0, ((0,), (1,))), (4, 1, ((1,),))], [((0, (3, 5)), (0, 4))])
        rows = [drawn_row(draw, tables, range(12)) for _ in range(40)]
        seals = [("seal", draw.randrange(5), drawn_pattern(draw, tables, range(12))) for _ in range(40)]
        reckoning = Reckoning(dealing)
        while len(reckoning.deeds) < 2000:
            word = draw.choice(("put", "seal", "send", "send", "hand", "hand", "double", "lose"))
            deed = {"put": ("put", draw.choice(rows)), "seal": draw.choice(seals), "send": ("send", *draw.sample(range(5), 2))}.get(
                word, (word, draw.choice(reckoning.way or [0])))
            if reckoning.refusal(deed) is None:
                reckoning.do(deed)
        begin = time.process_time()
        desk = Desk(dealing)
        for name, rules in zip("abc", (*READY[tables][:2], [("answer", ("x",), [("row", 0, ("x", "y")), ("row", 1, ("y",))])])):
            desk.do_deed(("ask", name, rules))
        for deed in reckoning.deeds[:1990]:
            desk.do_deed(deed)
        desk.do_deed(("ask", "d", READY[tables][2]))
        for _ in range(5):
            trial = desk.trial_deeds(reckoning.deeds[1990:])
            self.assertEqual((len(trial.tolds), trial.refused), (10, None))
        self.assertEqual(tuple(desk.do_deed(deed) for deed in reckoning.deeds[1990:]), trial.tolds)
        self.assertEqual(len(desk), 2004)
        self.assertGreater(sum(len(desk.do_deed(("told", name, house))) for name in "abcd" for house in range(5)), 5)
        self.assertLess(time.process_time() - begin, 60)

    def test_great_worths(self):
        desk = Desk(DEALING)
        desk.do_deed(("ask", "a", [EACH]))
        self.assertEqual(desk.do_deed(("put", (0, (FAR,)))), (("a", 0, ("answer", (FAR,))),))


if __name__ == "__main__":
    unittest.main()
