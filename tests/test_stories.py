"""Promises 16.11 and 16.12: stories."""

import time
import unittest

from soonestsaid.dealings import Dealing
from soonestsaid.dealtext import dealing_text, deed_text, read_dealing, read_deed
from soonestsaid.desk import Desk
from soonestsaid.errors import BadStory, SayError
from soonestsaid.questions import Question
from soonestsaid.questiontext import question_text, read_question
from soonestsaid.stories import print_deeds, put_away, read_deeds, taken_up
from tests.courses import Reckoning, drawn_deed, plain
from tests.helpers import as_lists, content, drawing, is_plain, refuses, unchanged
from tests.test_desk import ALONE, EACH, NAMES, Beside, drawn_desk_deed, drawn_rules_for
from tests.test_nets import DEALING
from tests.worlds import small_dealing

ASK = "ask a tables 1, 1: answer(x) <- row 0(x), not 1(x)."
HEAD = "tables 1, 1: houses 2, modulus 1; accept 0 0(0); accept 1 1(0)."
SIGNS = " abz09*.,:;()<-+\nAdropasktoldneed"


def own_line(tables, line):
    """The deed of a line, or None: by the words of the promise."""
    word = line.split(" ")[0]
    parts = line.split(" ")
    if word in ("drop", "need", "dealt", "carries"):
        many = 3 if word == "carries" else 2
        return tuple(parts) if len(parts) == many and all(is_name(name) for name in parts[1:]) else None
    if word == "told":
        if len(parts) != 3 or not is_name(parts[1]) or not is_number(parts[2]):
            return None
        return "told", parts[1], int(parts[2])
    try:
        if word != "ask":
            return read_deed(line)
        if len(parts) < 3 or not is_name(parts[1]):
            return None
        widths, rules = read_question(line[len(word) + len(parts[1]) + 2:])
        Question(tables, rules)
        return ("ask", parts[1], rules) if widths == tables else None
    except SayError:
        return None


def is_name(text):
    return 1 <= len(text) <= 8 and all(sign in "abcdefghijklmnopqrstuvwxyz" for sign in text)


def is_number(text):
    return 1 <= len(text) <= 100 and all(sign in "0123456789" for sign in text) and (text == "0" or text[0] != "0")


def drawn_deeds(draw, tables, many):
    """Deeds of the right shapes, whether a desk would do them or not."""
    beside = Beside(small_dealing(draw, tables), False)
    beside.reckoning.way = [0, 3, 12, 10 ** 60]
    found = []
    while len(found) < many:
        deed = drawn_desk_deed(draw, beside, 0.5)
        if deed[0] == "ask":
            deed = ("ask", draw.choice(NAMES), drawn_rules_for(draw, tables))
        found.append(deed)
    return tuple(found)


def shaken(draw, text):
    """The text with a sign more, less or exchanged, or with two lines exchanged."""
    at = draw.randint(0, len(text))
    kind = draw.choice(("more", "less", "other", "lines", "double"))
    if kind == "lines":
        lines = text.split("\n")
        draw.shuffle(lines)
        return "\n".join(lines)
    if kind == "double":
        lines = text.split("\n")
        lines.insert(draw.randint(0, len(lines)), draw.choice(lines))
        return "\n".join(lines)
    return text[:at] + ("" if kind == "less" else draw.choice(SIGNS)) + text[at + (kind != "more"):]


class DeedsTest(unittest.TestCase):
    def test_written_and_read_back(self):
        draw = drawing(411)
        words = {}
        for _ in range(150):
            tables = draw.choice(((1,), (1, 1), (2, 1)))
            deeds = drawn_deeds(draw, tables, draw.randint(0, 8))
            text = unchanged(self, print_deeds, tables, deeds)
            self.assertEqual(text, "\n".join(self.own_text(tables, deed) for deed in deeds))
            self.assertEqual(print_deeds(list(tables), as_lists(deeds)), text)
            found = unchanged(self, read_deeds, tables, text)
            self.assertEqual(found, plain(deeds))
            self.assertTrue(is_plain(found))
            self.assertEqual(read_deeds(list(tables), text), found)
            for deed in deeds:
                words[deed[0]] = words.get(deed[0], 0) + 1
        self.assertEqual(len(words), 13)
        self.assertGreater(min(words.values()), 3, words)

    def own_text(self, tables, deed):
        if deed[0] == "ask":
            return "ask " + deed[1] + " " + question_text(tables, deed[2])
        if deed[0] in ("drop", "told", "need", "dealt", "carries"):
            return " ".join(str(part) for part in deed)
        return deed_text(deed)

    def test_each_form(self):
        deeds = (("put", (0, (3, 4))), ("seal", 1, (0, (3, -1))), ("send", 0, 1), ("hand", 3), ("double", 3), ("lose", 3), ("stop", 2),
                 ("drop", "n"), ("told", "n", 2), ("need", "n"), ("dealt", "n"), ("carries", "n", "m"),
                 ("ask", "n", (("answer", (4,), ()),)))
        text = ("put 0(3, 4).\nseal 1 0(3, *).\nsend 0 1.\nhand 3.\ndouble 3.\nlose 3.\nstop 2.\ndrop n\ntold n 2\nneed n\ndealt n\n"
                "carries n m\nask n tables 2, 1: answer(4).")
        self.assertEqual(print_deeds((2, 1), deeds), text)
        self.assertEqual(read_deeds((2, 1), text), deeds)
        self.assertEqual((print_deeds((1,), ()), print_deeds((1,), []), read_deeds((1,), "")), ("", "", ()))
        # Whether a net or a desk would let it is not looked at.
        self.assertEqual(read_deeds((1,), "put 9().\ntold n 7\nstop 77.\nask stop tables 1: answer()."),
                         (("put", (9, ())), ("told", "n", 7), ("stop", 77), ("ask", "stop", (("answer", (), ()),))))

    def test_refused_lines(self):
        right = ("hand 3.", "drop n", ASK)
        for line in ("", " ", "hand 3", "hand 3. ", " hand 3.", "hand  3.", "hand 03.", "hand n", "hand", "Drop n", "drop", "drop ", "drop  n",
                     "drop n ", "drop n m", "drop n.", "drop abcdefghi", "drop N", "drop n1", "drop 1", "need", "need n m", "dealt", "dealt ",
                     "dealt n 1", "carries n", "carries n ", "carries n m o", "carries n  m", "carries n 1", "carries", "told n", "told n ",
                     "told n m", "told n 02", "told n -1", "told n +1", "told n 2 ", "told n 2.", "told n  2", "told n 2 3", "told", "told ",
                     "told N 2", "told 2 2", "told n " + "1" * 101, "ask", "ask ", "ask n", "ask n ", "ask tables 1, 1: answer(4).",
                     "ask n  tables 1, 1: answer(4).", "ask n tables 1, 1: answer(4)", "ask n tables 1, 1: answer(4). ",
                     "ask n tables 1: answer(4).", "ask n tables 1, 2: answer(4).", "ask n tables 1, 1, 1: answer(4).",
                     "ask n tables 1, 1: far(4).", "ask n tables 1, 1: answer(x).", "ask n tables 1, 1: answer(x) <- row 2(x).",
                     "ask n tables 1, 1: answer(x) <- row 0(x, y).", "ask 1 tables 1, 1: answer(4).", "ask abcdefghi tables 1, 1: answer(4).",
                     "ask n answer(4).", "asks n tables 1, 1: answer(4).", "trial n", "question", "eager", HEAD, ".", "put 0(3).put 0(4)."):
            self.assertIsNone(own_line((1, 1), line), line)
            for at in range(4):
                text = "\n".join((*right[:at], line, *right[at:], "wrong"))
                refuses(self, BadStory, {"line": at}, read_deeds, (1, 1), text)
            if line:
                refuses(self, BadStory, {"line": 0}, read_deeds, (1, 1), line)
        refuses(self, BadStory, {"line": 1}, read_deeds, (1, 1), ASK + "\n")
        refuses(self, BadStory, {"line": 0}, read_deeds, (1, 1), "\n")
        refuses(self, BadStory, {"line": 0}, read_deeds, (1, 1), "\n" + ASK)
        self.assertEqual(len(read_deeds((1, 1), "told n " + "1" * 100)), 1)

    def test_shaken_texts(self):
        draw = drawing(412)
        found = {}
        for _ in range(1200):
            tables = draw.choice(((1,), (1, 1), (2, 1)))
            text = shaken(draw, print_deeds(tables, drawn_deeds(draw, tables, draw.randint(1, 4))))
            expected = [own_line(tables, line) for line in text.split("\n")] if text else []
            if None in expected:
                refuses(self, BadStory, {"line": expected.index(None)}, read_deeds, tables, text)
            else:
                self.assertEqual(read_deeds(tables, text), tuple(expected))
            kind = expected.index(None) if None in expected else None
            found[kind] = found.get(kind, 0) + 1
        self.assertGreater(min(found[kind] for kind in (None, 0, 1, 2, 3)), 20, found)


class PutAwayTest(unittest.TestCase):
    def test_put_away_and_taken_up(self):
        draw = drawing(413)
        asks = deeds = 0
        for at in range(60):
            tables = draw.choice(((1,), (1, 1), (2, 1)))
            dealing = small_dealing(draw, tables, most_exceptions=3)
            desk, beside = Desk(dealing, at % 2 == 1), Beside(dealing, at % 2 == 1)
            for _ in range(draw.randint(0, 40)):
                deed = drawn_desk_deed(draw, beside)
                if beside.refusal(deed) is None:
                    desk.do_deed(deed)
                    beside.do(deed)
            text = unchanged(self, put_away, desk)
            lines = text.split("\n")
            self.assertEqual(lines[0], dealing_text(dealing.tables, dealing.houses, dealing.modulus, dealing.accepts, dealing.exceptions))
            self.assertEqual(lines[1], "sparing" if at % 2 else "eager")
            expected = [f"ask {name} {question_text(tables, question.rules)}" for name, question in desk.questions]
            self.assertEqual(lines[2:], expected + [deed_text(deed) for deed in desk.course])
            again = unchanged(self, taken_up, text)
            self.assertEqual(again, desk)
            self.assertEqual(put_away(again), text)
            # The log is that of a new desk that does the asks and then the course.
            other = Desk(dealing, at % 2 == 1)
            for deed in (*[("ask", name, question.rules) for name, question in desk.questions], *desk.course):
                other.do_deed(deed)
            self.assertEqual(again.log, other.log)
            # Both go on alike.
            for name, _ in desk.questions:
                for house in range(dealing.houses):
                    self.assertEqual(again.do_deed(("told", name, house)), desk.do_deed(("told", name, house)))
            for _ in range(5):
                deed = drawn_deed(draw, beside.reckoning)
                if beside.refusal(deed) is None:
                    beside.do(deed)
                    self.assertEqual(again.do_deed(deed), desk.do_deed(deed))
            asks, deeds = asks + len(desk.questions), deeds + len(desk.course)
        self.assertGreater(min(asks, deeds), 50)

    def test_written_out(self):
        desk = Desk(DEALING, True)
        desk.do_deed(("put", (0, (7,))))
        desk.do_deed(("ask", "a", [ALONE]))
        desk.do_deed(("seal", 1, (1, (-1,))))
        text = HEAD + "\nsparing\n" + ASK + "\nput 0(7).\nseal 1 1(*)."
        self.assertEqual(put_away(desk), text)
        again = taken_up(text)
        self.assertEqual(again, desk)
        self.assertEqual([deed[0] for deed, _ in again], ["ask", "put", "seal"])
        self.assertEqual(put_away(Desk(DEALING)), HEAD + "\neager")
        self.assertEqual(taken_up(HEAD + "\neager"), Desk(DEALING))
        self.assertEqual((taken_up(HEAD + "\nsparing").sparing, taken_up(HEAD + "\neager").sparing), (True, False))
        self.assertEqual(put_away(taken_up(HEAD + "\neager\n" + ASK)).count("\n"), 2)

    def test_lines_that_cannot_stand_there(self):
        wrong_heads = ("", " ", HEAD[:-1], HEAD + " ", "tables 1, 1: houses 2, modulus 1; accept 0 0(0).", "eager", ASK,
                       "tables 1, 1: houses 6, modulus 1; accept 0 0(0); accept 1 1(0).", "tables 4: houses 1, modulus 1; accept 0 0(0).",
                       "tables 1, 1: houses 2, modulus 4; accept 0 0(0); accept 1 1(0).",
                       "tables 1, 1: houses 2, modulus 1; accept 0 0(1); accept 1 1(0).",
                       HEAD[:-1] + "; row 0(3) to 2.", HEAD[:-1] + "; row 0(3) to 1; row 0(3) to 0.")
        for head in wrong_heads:
            for rest in ("", "\neager", "\nwrong", "\neager\nput 0(7)."):
                refuses(self, BadStory, {"line": 0}, taken_up, head + rest)
        refuses(self, BadStory, {"line": 1}, taken_up, HEAD)
        for word in ("", "Eager", "eager ", " eager", "spare", "True", "eager.", ASK, "put 0(7).", "sparingly"):
            for rest in ("", "\nput 0(7).", "\nwrong"):
                refuses(self, BadStory, {"line": 1}, taken_up, HEAD + "\n" + word + rest)
        self.judge((
            # Refused by the reading of deeds.
            ((), ""), ((), "wrong"), ((ASK,), ""), ((ASK, "put 0(7)."), "put 0(8)"), ((), "ask a tables 1: answer(4)."),
            # Neither an ask nor a net deed.
            ((ASK,), "drop a"), ((ASK,), "told a 0"), ((ASK,), "need a"), ((ASK,), "dealt a"), ((ASK,), "carries a a"), ((), "eager"),
            # An ask behind a net deed.
            (("put 0(7).",), ASK), ((ASK, "put 0(7)."), "ask b tables 1, 1: answer(4)."),
            # Refused by the desk.
            ((ASK,), ASK), ((ASK,), "ask a tables 1, 1: answer(4)."), ((), "put 2(7)."), ((), "put 0(7, 7)."), ((), "hand 0."), ((), "stop 2."),
            (("send 1 0.", "hand 0."), "hand 0."), (("seal 0 0(*).",), "put 0(7)."), (("stop 0.",), "put 0(7)."), ((), "send 1 1."),
            (tuple(ASK.replace("ask a", "ask " + name) for name in "abcd"), ASK.replace("ask a", "ask e"))))

    def judge(self, cases):
        for before, line in cases:
            for rest in ((), ("wrong",), (ASK, "put 0(9).", "")):
                for manner in ("eager", "sparing"):
                    text = "\n".join((HEAD, manner, *before, line, *rest))
                    refuses(self, BadStory, {"line": 2 + len(before)}, taken_up, text)
            self.assertEqual(len(taken_up("\n".join((HEAD, "eager", *before)))), len(before))

    def test_shaken_texts(self):
        draw = drawing(414)
        found = {}
        for _ in range(400):
            tables = draw.choice(((1,), (1, 1)))
            dealing = small_dealing(draw, tables)
            desk, reckoning = Desk(dealing, draw.random() < 0.5), Reckoning(dealing)
            for name in NAMES[:draw.randint(0, 2)]:
                desk.do_deed(("ask", name, drawn_rules_for(draw, tables)))
            for _ in range(draw.randint(0, 6)):
                deed = drawn_deed(draw, reckoning)
                if reckoning.refusal(deed) is None:
                    reckoning.do(deed)
                    desk.do_deed(deed)
            text = shaken(draw, put_away(desk))
            expected = self.first_wrong_line(text)
            if expected is None:
                # Entries of a dealing are put in order.
                head, _, rest = text.partition("\n")
                parts = read_dealing(head)
                dealing = Dealing(*parts)
                self.assertEqual(put_away(taken_up(text)),
                                 dealing_text(*parts[:3], dealing.accepts, dealing.exceptions) + "\n" + rest)
            else:
                refuses(self, BadStory, {"line": expected}, taken_up, text)
            kind = None if expected is None else min(expected, 4)
            found[kind] = found.get(kind, 0) + 1
        self.assertGreater(min(found[kind] for kind in (None, 0, 1, 2, 3, 4)), 5, found)

    def first_wrong_line(self, text):
        """The number of the first line that cannot stand there, or None."""
        lines = text.split("\n")
        try:
            dealing = Dealing(*read_dealing(lines[0]))
        except SayError:
            return 0
        if len(lines) == 1 or lines[1] not in ("eager", "sparing"):
            return 1
        beside = Beside(dealing, lines[1] == "sparing")
        for number, line in enumerate(lines[2:], start=2):
            deed = own_line(dealing.tables, line)
            if deed is None or deed[0] in ("drop", "told", "need", "dealt", "carries"):
                return number
            if deed[0] == "ask" and beside.reckoning.deeds or beside.refusal(deed) is not None:
                return number
            beside.do(deed)
        return None

    def test_long_stories_in_seconds(self):
        begin = time.process_time()
        desk = Desk(DEALING)
        desk.do_deed(("ask", "a", [ALONE]))
        desk.do_deed(("ask", "b", [EACH]))
        for at in range(40):
            desk.do_deed(("put", (at % 2, (at % 12,))))
        for at in range(900):
            desk.do_deed(("send", at % 2, 1 - at % 2))
            desk.do_deed(("hand", at))
        text = put_away(desk)
        self.assertEqual(taken_up(text), desk)
        self.assertEqual(len(read_deeds((1, 1), print_deeds((1, 1), [deed for deed, _ in desk]))), len(desk))
        held = content(desk)
        put_away(desk)
        self.assertEqual(content(desk), held)
        self.assertLess(time.process_time() - begin, 30)


if __name__ == "__main__":
    unittest.main()
