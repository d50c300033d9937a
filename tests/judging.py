"""A judge of papers, and all inputs that a view lets be over some worths, by the words of the promises alone."""

import itertools

from soonestsaid.fillings import ground
from soonestsaid.meaning import told_facts
from soonestsaid.patterns import typical_rows
from tests.helpers import drawn_terms
from tests.worlds import World


def first_world(question, dealing, wholes, fact):
    return World(dealing, wholes, known=(*question.constants, *fact[1]))


def own_breaking_rows(world, pattern):
    typical = typical_rows(pattern, world.worths, world.dealing.modulus)
    return tuple(row for row in typical if world.mark(row) == "open")


def is_derivation(question, world, fact, derivation):
    heads = []
    for number, filling in derivation:
        made = ground(question, number, filling)
        if not (made.fits and set(made.rows) <= set(world.rows) and set(made.facts) <= set(heads)
                and all(world.lacks(row) for row in made.nots) and all(world.without(thing) for thing in made.nones)):
            return False
        heads.append(made.head)
    return bool(heads) and heads[-1] == fact


def is_tree(question, world, fact, tree):
    if tree[0] == "told":
        return len(tree) == 2 and is_derivation(question, world, fact, tree[1])
    if tree[0] == "row":
        _, row, lacking, there = tree
        return (world.mark(row) == "open" and is_tree(question, world.beside(lacking=(row,)), fact, lacking)
                and is_tree(question, world.beside(there=(row,)), fact, there))
    word, pattern, empty, cases = tree
    return (word == "none" and world.empty(pattern) == "open"
            and is_tree(question, world.beside(empties=(pattern,)), fact, empty)
            and tuple(row for row, _ in cases) == own_breaking_rows(world, pattern)
            and all(is_tree(question, world.beside(there=(row,)), fact, branch) for row, branch in cases))


def is_paper(question, view, fact, paper):
    """Whether the paper says just what the view has heard, and its tree is right for it."""
    heard, tree = paper
    expected = tuple((house, whole.rows, whole.seals) for house, whole in view.wholes)
    return heard == expected and is_tree(question, first_world(question, view.dealing, view.wholes, fact), fact, tree)


def leaves(tree):
    if tree[0] == "told":
        return 1
    return leaves(tree[2]) + (leaves(tree[3]) if tree[0] == "row" else sum(leaves(branch) for _, branch in tree[3]))


def enough_worths(question, world):
    """The known worths, and as many new ones of each rest as all patterns of the question have stars."""
    stars = sum(pattern[1].count(-1) for pattern in question.patterns)
    least = max(world.worths, default=-1) + 1
    return [*world.worths, *range(least, least + stars * world.dealing.modulus)]


def open_ones(world, worths):
    return [row for row in world.all_rows(worths or [0]) if world.mark(row) == "open"]


def all_inputs(world, rows):
    """All inputs that have the world's rows and some of the given ones."""
    for many in range(len(rows) + 1):
        for some in itertools.combinations(rows, many):
            yield tuple(sorted((*world.rows, *some)))


def is_told_always(question, world, rows, fact):
    return all(fact in told_facts(question, given) for given in all_inputs(world, rows))


def shaky_rules(draw, tables, opposites, most=3, told=True, constants=(0,)):
    """Rules with 'not' and 'none' conditions; perhaps others that tell the same when such a one is broken."""
    widths = {"answer": draw.choice((0, 1, 1)), "pair": draw.choice((0, 1))}
    heads = ["answer", *(draw.choice(("answer", "pair")) for _ in range(draw.randint(0, most - 1)))]
    found = []
    for name in heads if told else ["answer"] * len(heads):
        conditions = []
        for _ in range(draw.choice((1, 1, 2))):
            other = draw.choice(heads)
            if told and draw.random() < 0.3:
                conditions.append(("told", other, drawn_terms(draw, "xy", constants, widths[other])))
            else:
                table = draw.randrange(len(tables))
                conditions.append(("row", table, drawn_terms(draw, "xy", constants, tables[table])))
        bound = sorted({term for _, _, terms in conditions for term in terms if isinstance(term, str)})
        for _ in range(draw.choice((1, 1, 1, 2) if name == "answer" or draw.random() < 0.5 else (0,))):
            table = draw.randrange(len(tables))
            if draw.random() < 0.6:
                conditions.append(("not", table, drawn_terms(draw, bound, constants, tables[table])))
            else:
                conditions.append(("none", (table, tuple(draw.choice((-1, -1, 0)) for _ in range(tables[table])))))
        if len(bound) == 2 and draw.random() < 0.3:
            conditions.append(("unlike", *bound))
        draw.shuffle(conditions)
        found.append((name, drawn_terms(draw, bound, constants, widths[name]), tuple(conditions)))
    if opposites:
        found.extend(rule for rule in [opposite(draw, rule) for rule in found] if rule is not None)
    draw.shuffle(found)
    return tuple(found[:6]) if "answer" in [rule[0] for rule in found[:6]] else tuple(found[-6:])


def opposite(draw, rule):
    """A rule that tells the same if one of the rule's 'not' or 'none' conditions is broken."""
    name, terms, conditions = rule
    places = [at for at, condition in enumerate(conditions) if condition[0] in ("not", "none")]
    if not places:
        return None
    at = draw.choice(places)
    if conditions[at][0] == "not":
        broken = ("row", *conditions[at][1:])
    else:
        table, cells = conditions[at][1]
        broken = ("row", table, tuple("uvw"[place] if cell == -1 else cell for place, cell in enumerate(cells)))
    left = [condition for place, condition in enumerate(conditions) if place != at and (
        condition[0] in ("row", "told") or draw.random() < 0.5)]
    return name, terms, (*left, broken)
