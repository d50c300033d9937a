"""Courses by the words of the promises: what follows from their deeds is worked out anew, back along deeds and letters."""

from soonestsaid.questions import Question
from soonestsaid.wholes import Whole
from tests.helpers import as_lists, drawn_pattern, drawn_row
from tests.judging import is_row_of, shaky_rules
from tests.worlds import matches, small_dealing

KINDS = {"put": ("row",), "seal": ("house", "pattern"), "send": ("house", "house"), "hand": ("letter",),
         "double": ("letter",), "lose": ("letter",), "stop": ("house",)}
WORDS = ("put", "put", "put", "seal", "seal", "send", "send", "send", "hand", "hand", "hand", "double", "lose", "stop")


def plain(thing):
    """The thing with tuples in the place of all lists."""
    return tuple(plain(part) for part in thing) if isinstance(thing, (list, tuple)) else thing


class Reckoning:
    """The deeds of a course, the letters, and the deeds that happened at each house."""

    def __init__(self, dealing, deeds=()):
        self.dealing = dealing
        self.deeds = []
        # For each letter: sender, receiver, the deed that made it, how many deeds had happened at the sender.
        self.letters = []
        self.way = []
        self.stopped = []
        self.happened = [[] for _ in range(dealing.houses)]
        for deed in deeds:
            self.do(deed)

    def rows(self):
        return {deed[1] for deed in self.deeds if deed[0] == "put"}

    def refusal(self, deed):
        """None, or what is wrong: the word of NoDeed, or the pattern of Sealed."""
        if not isinstance(deed, (list, tuple)) or not deed or not isinstance(deed[0], str):
            return "shape"
        if deed[0] not in KINDS or len(deed) != len(KINDS[deed[0]]) + 1:
            return "shape"
        for kind, thing in zip(KINDS[deed[0]], deed[1:]):
            if not self.is_right(kind, plain(thing)):
                return kind
        word, first = deed[0], plain(deed[1])
        if word == "send" and deed[1] == deed[2]:
            return "self"
        if word in ("seal", "send", "stop") and first in self.stopped:
            return "stopped"
        if word == "put":
            if set(self.dealing.homes(first)) <= set(self.stopped):
                return "stopped"
            if first not in self.rows():
                for house in self.dealing.homes(first):
                    seals = [deed[2] for deed in self.deeds if deed[:2] == ("seal", house) and matches(deed[2], first)]
                    if seals:
                        return min(seals)
        return None

    def is_right(self, kind, thing):
        if kind == "house":
            return type(thing) is int and 0 <= thing < self.dealing.houses
        if kind == "letter":
            return type(thing) is int and thing in self.way
        return is_row_of(self.dealing.tables, thing, 0 if kind == "row" else -1)

    def happens(self, deed):
        """The houses at which a right deed happens."""
        if deed[0] == "put":
            houses = [] if deed[1] in self.rows() else list(self.dealing.homes(deed[1]))
        else:
            houses = {"seal": [deed[1]], "hand": [self.letters[deed[1]][1]] if deed[0] == "hand" else []}.get(deed[0], [])
        return [house for house in houses if house not in self.stopped]

    def do(self, deed):
        deed = plain(deed)
        assert self.refusal(deed) is None, deed
        for house in self.happens(deed):
            self.happened[house].append(len(self.deeds))
        if deed[0] == "send":
            self.add((deed[1], deed[2], len(self.deeds), len(self.happened[deed[1]])))
        if deed[0] == "double":
            sender, receiver, _, steps = self.letters[deed[1]]
            self.add((sender, receiver, len(self.deeds), steps))
        if deed[0] in ("hand", "lose"):
            self.way.remove(deed[1])
        if deed[0] == "stop":
            self.stopped.append(deed[1])
        self.deeds.append(deed)

    def add(self, letter):
        self.way.append(len(self.letters))
        self.letters.append(letter)

    def begun(self, house, many=None):
        """How many deeds at each house stand behind the first deeds of a house, back along its deeds and letters."""
        reached = [0] * self.dealing.houses
        waiting = [(house, len(self.happened[house]) if many is None else many)]
        while waiting:
            at, steps = waiting.pop()
            for number in self.happened[at][reached[at]:steps]:
                if self.deeds[number][0] == "hand":
                    sender, _, _, sent = self.letters[self.deeds[number][1]]
                    waiting.append((sender, sent))
            reached[at] = max(reached[at], steps)
        return tuple(reached)

    def past(self, house):
        found = set()
        for at, many in enumerate(self.begun(house)):
            for number in self.happened[at][:many]:
                found.add(number)
                if self.deeds[number][0] == "hand":
                    found |= self.sources(self.deeds[number][1])
        return tuple(sorted(found))

    def sources(self, letter):
        source = self.letters[letter][2]
        word, first = self.deeds[source][:2]
        return {source} | (self.sources(first) if word == "double" else set())

    def wholes(self, beginnings):
        """What each house holds at such a beginning."""
        found = []
        for house, many in enumerate(beginnings):
            deeds = [self.deeds[number] for number in self.happened[house][:many]]
            found.append(Whole([deed[1] for deed in deeds if deed[0] == "put"],
                               [deed[2] for deed in deeds if deed[0] == "seal"]))
        return found

    def carried(self, letter):
        """What the sender of a letter held of each house when it was sent: couples, without bare wholes."""
        sender, _, _, steps = self.letters[letter]
        wholes = self.wholes(self.begun(sender, steps))
        return tuple((house, whole) for house, whole in enumerate(wholes) if whole.rows or whole.seals)


def drawn_deed(draw, reckoning, worths=(0, 1, 2), words=WORDS):
    """A deed that may well be refused."""
    tables, houses = reckoning.dealing.tables, reckoning.dealing.houses
    word = draw.choice(words)
    # Few houses stop, so that something goes on.
    if word == "stop" and draw.random() < 0.7:
        word = "hand"
    if word == "put":
        return word, drawn_row(draw, tables, worths)
    if word == "seal":
        return word, draw.randrange(houses), drawn_pattern(draw, tables, worths)
    if word == "send":
        return word, draw.randrange(houses), draw.randrange(houses)
    if word == "stop":
        return word, draw.randrange(houses)
    return word, draw.choice(reckoning.way or [0])


def drawn_reckoning(draw, dealing, many, worths=(0, 1, 2), words=WORDS):
    """A course of so many deeds, none of which is refused."""
    reckoning = Reckoning(dealing)
    tries = 0
    while len(reckoning.deeds) < many and tries < 20 * many + 20:
        tries += 1
        deed = drawn_deed(draw, reckoning, worths, words)
        if reckoning.refusal(deed) is None:
            reckoning.do(deed)
    return reckoning


# Rules of each kind that tell answers soon, over tables that begin with the widths.
READY = {
    (1,): (
        [("answer", ("x",), [("row", 0, ("x",)), ("not", 0, (0,))])],
        [("answer", ("x",), [("row", 0, ("x",))])],
        [("answer", ("x", "y"), [("row", 0, ("x",)), ("row", 0, ("y",)), ("unlike", "x", "y")])]),
    (1, 1): (
        [("answer", ("x",), [("row", 0, ("x",)), ("not", 1, ("x",))])],
        [("answer", ("x",), [("row", 0, ("x",)), ("none", (1, (-1,)))])],
        [("answer", ("x",), [("row", 0, ("x",)), ("not", 1, ("x",))]),
         ("answer", ("x",), [("row", 0, ("x",)), ("row", 1, ("x",))])],
        [("answer", ("x",), [("row", 0, ("x",)), ("told", "pair", ("x",))]), ("pair", ("x",), [("row", 1, ("x",))]),
         ("pair", ("x",), [("row", 0, ("x",)), ("not", 1, (0,))])]),
    (2, 1): (
        [("answer", ("x",), [("row", 0, ("x", "y")), ("not", 1, ("y",))])],
        [("answer", ("x",), [("row", 1, ("x",)), ("none", (0, (0, -1)))])],
        [("answer", ("x", "z"), [("told", "pair", ("x", "z")), ("not", 1, ("z",))]), ("pair", ("x", "y"), [("row", 0, ("x", "y"))]),
         ("pair", ("x", "z"), [("told", "pair", ("x", "y")), ("row", 0, ("y", "z"))])])}


def drawn_case(draw, tables=None, told=True, share=0.5, **kinds):
    """A question and a dealing; such a share of the questions tells answers soon."""
    tables = tables or draw.choice(((1,), (1, 1), (2, 1)))
    ready = [rules for rules in READY[tables] if told or not any(part[0] == "told" for rule in rules for part in rule[2])]
    rules = draw.choice(ready) if draw.random() < share else shaky_rules(draw, tables, draw.random() < 0.4, told=told)
    return Question(tables, rules), small_dealing(draw, tables, **kinds)


def in_some_form(draw, deed):
    """The deed, perhaps with lists in the place of tuples."""
    return draw.choice((deed, list(deed), as_lists(deed)))


def ending(dealing, letters, house):
    """Deeds behind which a house has heard that all houses have sealed everything; so many letters were sent before."""
    deeds = [("seal", other, (table, (-1,) * width))
             for other in range(dealing.houses) for table, width in enumerate(dealing.tables)]
    others = [other for other in range(dealing.houses) if other != house]
    for at, other in enumerate(others):
        deeds += [("send", other, house), ("hand", letters + at)]
    return deeds
