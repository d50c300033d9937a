"""A judge of papers, and all inputs that a view lets be over some worths, by the words of the promises alone."""

import itertools

from soonestsaid.fillings import ground
from soonestsaid.meaning import basis_fault, told_facts
from soonestsaid.patterns import typical_rows
from soonestsaid.wholes import Whole
from tests.helpers import drawn_terms
from tests.worlds import World, matches, renamed


def first_world(question, dealing, wholes, fact):
    return World(dealing, wholes, known=(*question.constants, *fact[1]))


def own_breaking_rows(world, pattern):
    typical = typical_rows(pattern, world.worths, world.dealing.modulus)
    return tuple(row for row in typical if world.mark(row) == "open")


def is_derivation(question, world, fact, derivation):
    heads = []
    for number, filling in derivation:
        made = ground(question, number, filling)
        if not (made.fits and set(made.rows) <= set(world.rows) and set(made.facts) <= set(heads)
                and all(world.lacks(row) for row in made.nots) and all(world.without(thing) for thing in made.nones)):
            return False
        heads.append(made.head)
    return bool(heads) and heads[-1] == fact


def is_tree(question, world, fact, tree):
    if tree[0] == "told":
        return len(tree) == 2 and is_derivation(question, world, fact, tree[1])
    if tree[0] == "row":
        _, row, lacking, there = tree
        return (world.mark(row) == "open" and is_tree(question, world.beside(lacking=(row,)), fact, lacking)
                and is_tree(question, world.beside(there=(row,)), fact, there))
    word, pattern, empty, cases = tree
    return (word == "none" and world.empty(pattern) == "open"
            and is_tree(question, world.beside(empties=(pattern,)), fact, empty)
            and tuple(row for row, _ in cases) == own_breaking_rows(world, pattern)
            and all(is_tree(question, world.beside(there=(row,)), fact, branch) for row, branch in cases))


def is_paper(question, view, fact, paper):
    """Whether the paper says just what the view has heard, and its tree is right for it."""
    heard, tree = paper
    expected = tuple((house, whole.rows, whole.seals) for house, whole in view.wholes)
    return heard == expected and is_tree(question, first_world(question, view.dealing, view.wholes, fact), fact, tree)


def leaves(tree):
    if tree[0] == "told":
        return 1
    return leaves(tree[2]) + (leaves(tree[3]) if tree[0] == "row" else sum(leaves(branch) for _, branch in tree[3]))


def enough_worths(question, world):
    """The known worths, and as many new ones of each rest as all patterns of the question have stars."""
    stars = sum(pattern[1].count(-1) for pattern in question.patterns)
    least = max(world.worths, default=-1) + 1
    return [*world.worths, *range(least, least + stars * world.dealing.modulus)]


def open_ones(world, worths):
    return [row for row in world.all_rows(worths or [0]) if world.mark(row) == "open"]


def all_inputs(world, rows):
    """All inputs that have the world's rows and some of the given ones."""
    for many in range(len(rows) + 1):
        for some in itertools.combinations(rows, many):
            yield tuple(sorted((*world.rows, *some)))


def is_told_always(question, world, rows, fact):
    return all(fact in told_facts(question, given) for given in all_inputs(world, rows))


def shaky_rules(draw, tables, opposites, most=3, told=True, constants=(0,)):
    """Rules with 'not' and 'none' conditions; perhaps others that tell the same when such a one is broken."""
    widths = {"answer": draw.choice((0, 1, 1)), "pair": draw.choice((0, 1))}
    heads = ["answer", *(draw.choice(("answer", "pair")) for _ in range(draw.randint(0, most - 1)))]
    found = []
    for name in heads if told else ["answer"] * len(heads):
        conditions = []
        for _ in range(draw.choice((1, 1, 2))):
            other = draw.choice(heads)
            if told and draw.random() < 0.3:
                conditions.append(("told", other, drawn_terms(draw, "xy", constants, widths[other])))
            else:
                table = draw.randrange(len(tables))
                conditions.append(("row", table, drawn_terms(draw, "xy", constants, tables[table])))
        bound = sorted({term for _, _, terms in conditions for term in terms if isinstance(term, str)})
        for _ in range(draw.choice((1, 1, 1, 2) if name == "answer" or draw.random() < 0.5 else (0,))):
            table = draw.randrange(len(tables))
            if draw.random() < 0.6:
                conditions.append(("not", table, drawn_terms(draw, bound, constants, tables[table])))
            else:
                conditions.append(("none", (table, tuple(draw.choice((-1, -1, 0)) for _ in range(tables[table])))))
        if len(bound) == 2 and draw.random() < 0.3:
            conditions.append(("unlike", *bound))
        draw.shuffle(conditions)
        found.append((name, drawn_terms(draw, bound, constants, widths[name]), tuple(conditions)))
    if opposites:
        found.extend(rule for rule in [opposite(draw, rule) for rule in found] if rule is not None)
    draw.shuffle(found)
    return tuple(found[:6]) if "answer" in [rule[0] for rule in found[:6]] else tuple(found[-6:])


def opposite(draw, rule):
    """A rule that tells the same if one of the rule's 'not' or 'none' conditions is broken."""
    name, terms, conditions = rule
    places = [at for at, condition in enumerate(conditions) if condition[0] in ("not", "none")]
    if not places:
        return None
    at = draw.choice(places)
    if conditions[at][0] == "not":
        broken = ("row", *conditions[at][1:])
    else:
        table, cells = conditions[at][1]
        broken = ("row", table, tuple("uvw"[place] if cell == -1 else cell for place, cell in enumerate(cells)))
    left = [condition for place, condition in enumerate(conditions) if place != at and (
        condition[0] in ("row", "told") or draw.random() < 0.5)]
    return name, terms, (*left, broken)


def is_row_of(tables, thing, least=0):
    """Whether the thing is a row, or a pattern if the least cell is -1, in plain tuples and whole numbers."""
    def whole(part):
        return type(part) is int
    return (type(thing) is tuple and len(thing) == 2 and whole(thing[0]) and 0 <= thing[0] < len(tables)
            and type(thing[1]) is tuple and len(thing[1]) == tables[thing[0]]
            and all(whole(cell) and cell >= least for cell in thing[1]))


def hears(view, heard):
    """Whether the first part of a paper is what the view can have heard before."""
    if type(heard) is not tuple:
        return False
    last = -1
    for entry in heard:
        if type(entry) is not tuple or len(entry) != 3:
            return False
        house, rows, seals = entry
        if type(house) is not int or not last < house < view.dealing.houses:
            return False
        last = house
        whole = view.whole_of(house)
        for things, known, least in ((rows, whole.rows, 0), (seals, whole.seals, -1)):
            if type(things) is not tuple or not all(is_row_of(view.dealing.tables, thing, least) for thing in things):
                return False
            if list(things) != sorted(set(things)) or not set(things) <= set(known):
                return False
        if not rows and not seals:
            return False
        if any(matches(seal, row) for seal in seals for row in whole.rows if row not in rows):
            return False
    return True


def own_fault(question, view, fact, paper):
    """The word and the place of a paper's first fault, or None."""
    if type(paper) is not tuple or len(paper) != 2 or not hears(view, paper[0]):
        return "heard", ()
    wholes = [(house, Whole(rows, seals)) for house, rows, seals in paper[0]]
    return own_tree_fault(question, first_world(question, view.dealing, wholes, fact), fact, paper[1], ())


def own_tree_fault(question, world, fact, tree, place):
    word = tree[0] if type(tree) is tuple and tree else None
    if word == "told" and len(tree) == 2:
        return None if basis_fault(question, world, fact, tree[1]) is None else ("steps", place)
    if word == "row" and len(tree) == 4:
        row = tree[1]
        if not is_row_of(question.tables, row) or not set(row[1]) <= set(world.worths) or world.mark(row) != "open":
            return "row", place
        below = [(tree[2], world.beside(lacking=(row,))), (tree[3], world.beside(there=(row,)))]
    elif word == "none" and len(tree) == 4 and type(tree[3]) is tuple and all(
            type(case) is tuple and len(case) == 2 for case in tree[3]):
        pattern = tree[1]
        if not is_row_of(question.tables, pattern, -1) or not set(pattern[1]) <= {-1, *world.worths}:
            return "none", place
        if world.empty(pattern) != "open":
            return "none", place
        rows = tuple(row for row, _ in tree[3])
        if repr(rows) != repr(own_breaking_rows(world, pattern)):
            return "cases", place
        below = [(tree[2], world.beside(empties=(pattern,)))]
        below += [(branch, world.beside(there=(row,))) for row, branch in tree[3]]
    else:
        return "shape", place
    for at, (branch, beside) in enumerate(below):
        fault = own_tree_fault(question, beside, fact, branch, (*place, at))
        if fault is not None:
            return fault
    return None


def own_leaves(tree, place=()):
    if tree[0] == "told":
        return (place,)
    below = tree[2:] if tree[0] == "row" else (tree[2], *(branch for _, branch in tree[3]))
    return tuple(leaf for at, branch in enumerate(below) for leaf in own_leaves(branch, (*place, at)))


def own_walk(question, world, tree, rows, place=(), swaps=()):
    """The place of the leaf to which an input comes, the leaf's steps, and the exchanges on the way."""
    if tree[0] == "told":
        return place, tree[1], swaps
    if tree[0] == "row":
        if tree[1] in rows:
            return own_walk(question, world.beside(there=(tree[1],)), tree[3], rows, (*place, 1), swaps)
        return own_walk(question, world.beside(lacking=(tree[1],)), tree[2], rows, (*place, 0), swaps)
    covered = sorted(row for row in rows if matches(tree[1], row))
    if not covered:
        return own_walk(question, world.beside(empties=(tree[1],)), tree[2], rows, (*place, 0), swaps)
    standing = [at for at, (case, _) in enumerate(tree[3]) if stands_for(case, covered[0], world)]
    assert len(standing) == 1, standing
    case, branch = tree[3][standing[0]]
    row = covered[0]
    for at in range(len(row[1])):
        one, other = row[1][at], case[1][at]
        if one != other:
            swaps = (*swaps, (one, other))
            rows = renamed(rows, {one: other, other: one})
            row = renamed([row], {one: other, other: one})[0]
    assert row == case
    return own_walk(question, world.beside(there=(case,)), branch, rows, (*place, standing[0] + 1), swaps)


def stands_for(case, row, world):
    places = range(len(row[1]))
    modulus = world.dealing.modulus
    for at in places:
        one, other = case[1][at], row[1][at]
        if (one in world.worths or other in world.worths) and one != other:
            return False
        if one % modulus != other % modulus:
            return False
        if one not in world.worths and any(
                (case[1][at] == case[1][by]) != (row[1][at] == row[1][by]) for by in places
                if case[1][by] not in world.worths):
            return False
    return True


def undone(steps, swaps):
    """The steps with all exchanges undone in their fillings, the last one first."""
    for one, other in reversed(swaps):
        names = {one: other, other: one}
        steps = tuple((number, tuple(names.get(worth, worth) for worth in filling)) for number, filling in steps)
    return tuple((number, tuple(filling)) for number, filling in steps)
