"""A second way to tell how far a text is right: grammars that are derived sign by sign.

A grammar is a node. Nodes are made by the functions below alone, so that equal nodes are one object and a node
that nothing can fulfil is NOTHING.
"""

DIGITS = "0123456789"
LETTERS = "abcdefghijklmnopqrstuvwxyz"
NODES = {}
LATER = {}


class Node:
    def __init__(self, kind, parts):
        self.kind = kind
        self.parts = parts
        self.derived = {}


def node(kind, *parts):
    key = (kind, *[id(part) if isinstance(part, Node) else part for part in parts])
    if key not in NODES:
        NODES[key] = Node(kind, parts)
    return NODES[key]


NOTHING = node("nothing")
DONE = node("done")


def either(*parts):
    found = {}
    for part in parts:
        for inner in part.parts if part.kind == "either" else (part,):
            if inner is not NOTHING:
                found[id(inner)] = inner
    ordered = [found[key] for key in sorted(found)]
    if len(ordered) < 2:
        return ordered[0] if ordered else NOTHING
    return node("either", *ordered)


def both(one, other):
    if NOTHING in (one, other):
        return NOTHING
    return other if one is DONE else node("both", one, other)


def line(*parts):
    found = DONE
    for part in reversed(parts):
        found = both(word(part) if isinstance(part, str) else part, found)
    return found


def word(text):
    found = DONE
    for sign in reversed(text):
        found = both(node("sign", sign), found)
    return found


def upto(signs, many):
    """At most `many` of the signs."""
    found = DONE
    for _ in range(many):
        found = either(DONE, both(node("sign", signs), found))
    return found


def star(part):
    return node("star", part)


def later(name, maker, *args):
    """A grammar that is made when it is looked at."""
    found = node("later", name, *args)
    LATER[id(found)] = maker
    return found


def made(part):
    while part.kind == "later":
        part = LATER[id(part)](*part.parts[1:])
    return part


def ends(part):
    """Whether the empty text is right."""
    part = made(part)
    if part.kind == "either":
        return any(ends(inner) for inner in part.parts)
    if part.kind == "both":
        return ends(part.parts[0]) and ends(part.parts[1])
    return part.kind in ("done", "star")


def derive(part, sign):
    """The grammar of what may stand behind the sign."""
    part = made(part)
    if sign not in part.derived:
        part.derived[sign] = derive_anew(part, sign)
    return part.derived[sign]


def derive_anew(part, sign):
    if part.kind == "sign":
        return DONE if sign in part.parts[0] else NOTHING
    if part.kind == "either":
        return either(*[derive(inner, sign) for inner in part.parts])
    if part.kind == "star":
        return both(derive(part.parts[0], sign), part)
    if part.kind == "both":
        first = both(derive(part.parts[0], sign), part.parts[1])
        return either(first, derive(part.parts[1], sign)) if ends(part.parts[0]) else first
    return NOTHING


def fault(grammar, text, begin=0):
    """None if the text is right, else the length of its longest right beginning; begin is added."""
    for place, sign in enumerate(text):
        grammar = derive(grammar, sign)
        if grammar is NOTHING:
            return begin + place
    return None if ends(grammar) else begin + len(text)


def check_mutants(test, grammar, text, read, error, signs):
    """Reads the text with each sign exchanged, put in or left out, and each beginning of it."""
    before = grammar
    for place in range(len(text) + 1):
        rest = text[place:]
        mutants = [rest[:0], rest[1:], *[sign + rest for sign in signs], *[sign + rest[1:] for sign in signs]]
        for mutant in mutants:
            check_one(test, text[:place] + mutant, fault(before, mutant, place), read, error)
        if rest:
            before = derive(before, rest[0])


def check_one(test, text, expected, read, error):
    try:
        read(text)
        found = None
    except error as raised:
        found = raised.place
    test.assertEqual(found, expected, text)


def listed(part, between):
    """One or more of the part, with `between` between two of them."""
    return line(part, star(line(between, part)))


def maybe(part):
    return either(DONE, part)


NUMBER = either(word("0"), line(node("sign", "123456789"), upto(DIGITS, 99)))
NAME = line(node("sign", LETTERS), upto(LETTERS, 7))
TERM = either(NUMBER, NAME)
CELL = either(NUMBER, word("*"))
TERMS = line("(", maybe(listed(TERM, ", ")), ")")
ROW = line(NUMBER, "(", maybe(listed(NUMBER, ", ")), ")")
PATTERN = line(NUMBER, "(", maybe(listed(CELL, ", ")), ")")
TABLES = line("tables ", listed(NUMBER, ", "), ": ")
CONDITION = either(
    line("row ", NUMBER, TERMS), line("told ", NAME, TERMS), line("not ", NUMBER, TERMS), line("none ", PATTERN),
    line("unlike(", TERM, ", ", TERM, ")"))
RULE = line(NAME, TERMS, maybe(line(" <- ", listed(CONDITION, ", "))))
QUESTION = line(TABLES, listed(RULE, "; "), ".")
SUM = listed(NUMBER, "+")
ACCEPT = line("; accept ", NUMBER, " ", NUMBER, "(", maybe(listed(SUM, ", ")), ")")
EXCEPTION = line("; row ", ROW, " to ", SUM)
DEALING = line(TABLES, "houses ", NUMBER, ", modulus ", NUMBER, star(ACCEPT), star(EXCEPTION), ".")
DEED = either(
    line("put ", ROW, "."), line("seal ", NUMBER, " ", PATTERN, "."), line("send ", NUMBER, " ", NUMBER, "."),
    *[line(f"{name} ", NUMBER, ".") for name in ("hand", "double", "lose", "stop")])


def tree(held):
    """A tree within this many curly brackets."""
    told = line("told[", maybe(listed(ROW, ", ")), "]")
    if held == 40:
        return told
    inner = line("{", later("tree", tree, held + 1), "}")
    case = line("{", ROW, ": ", later("tree", tree, held + 1), "}")
    return either(told, line("row ", ROW, inner, inner), line("none ", PATTERN, inner, star(case)))


HEARD = line(
    NUMBER, "[", maybe(listed(ROW, ", ")), "][", maybe(listed(PATTERN, ", ")), "]")
PAPER = line(maybe(listed(HEARD, "; ")), ": ", tree(0), ".")
