"""What several test files need."""

import copy
import random


def drawing(seed):
    """A source of draws that is the same in each run."""
    return random.Random(seed)


def drawn_row(draw, tables, worths):
    table = draw.randrange(len(tables))
    return (table, tuple(draw.choice(worths) for _ in range(tables[table])))


def drawn_rows(draw, tables, worths, most):
    return tuple(sorted({drawn_row(draw, tables, worths) for _ in range(draw.randint(0, most))}))


def drawn_pattern(draw, tables, worths):
    return drawn_row(draw, tables, [-1, -1, *worths])


def shuffled(draw, things, doubles=True):
    """The things as a list in any order, some of them twice."""
    found = list(things)
    if doubles and found:
        found.extend(draw.choice(found) for _ in range(draw.randint(0, 2)))
    draw.shuffle(found)
    return found


def as_lists(thing):
    """The thing with lists in the place of all tuples."""
    if isinstance(thing, (tuple, list)):
        return [as_lists(part) for part in thing]
    return thing


def is_plain(thing):
    """Whether the thing is tuples through and through, down to numbers and strings."""
    if isinstance(thing, tuple):
        return all(is_plain(part) for part in thing)
    return not isinstance(thing, (list, dict, set))


def content(thing):
    """The thing with dicts of their attributes in the place of objects, to see whether anything in it changed."""
    if isinstance(thing, (list, tuple)):
        return type(thing)(content(part) for part in thing)
    if isinstance(thing, dict):
        return {key: content(part) for key, part in thing.items()}
    if hasattr(thing, "__dict__") and not isinstance(thing, type):
        return thing.__class__.__name__, content(vars(thing))
    return copy.copy(thing) if isinstance(thing, set) else thing


def refuses(test, error, told, call, *args):
    """The call raises exactly this error, with these attributes, and changes nothing that it was passed."""
    before, held = content(args), content(owner(call))
    try:
        call(*args)
    except ValueError as found:
        test.assertIs(found.__class__, error, (args, found))
        test.assertEqual(found.__dict__, told, args)
    else:
        test.fail(f"{call.__name__}{args} raised nothing")
    test.assertEqual(content(args), before)
    test.assertEqual(content(owner(call)), held)


def owner(call):
    """The object whose method is called, if it is one."""
    return getattr(call, "__self__", None)


def unchanged(test, call, *args):
    """What the call returns; it changes nothing that it was passed, and not the object whose method it is."""
    before, held = content(args), content(owner(call))
    found = call(*args)
    test.assertEqual(content(args), before)
    test.assertEqual(content(owner(call)), held)
    return found


NAMES = ("answer", "pair", "far")
VARIABLES = ("x", "y", "z", "w")


def drawn_rules(draw, tables, words=("row", "told", "told", "not", "none", "unlike"), constants=(0, 1), most=5):
    """Rules that make a question, with conditions of these words."""
    widths = {name: draw.choice((0, 1, 1, 2, 2, 3)) for name in NAMES}
    heads = ["answer", *[draw.choice(NAMES) for _ in range(draw.randint(0, most - 1))]]
    rules = [drawn_rule(draw, tables, words, constants, head, widths, heads) for head in heads]
    draw.shuffle(rules)
    return tuple(rules)


def drawn_rule(draw, tables, words, constants, name, widths, heads):
    conditions = []
    many = draw.choice((1, 1, 2, 3, 5))
    while len(conditions) < draw.randint(1, many):
        word = draw.choice([word for word in words if word in ("row", "told")])
        table = draw.randrange(len(tables))
        told = draw.choice(heads) if draw.random() < 0.9 else draw.choice(NAMES)
        if word == "row":
            conditions.append((word, table, drawn_terms(draw, VARIABLES, constants, tables[table])))
        else:
            conditions.append((word, told, drawn_terms(draw, VARIABLES, constants, widths[told])))
    bound = sorted({term for _, _, terms in conditions for term in terms if isinstance(term, str)})
    while len(conditions) < many and draw.random() < 0.5:
        word = draw.choice([word for word in words if word in ("not", "none", "unlike")])
        table = draw.randrange(len(tables))
        if word == "not":
            conditions.append((word, table, drawn_terms(draw, bound, constants, tables[table])))
        elif word == "none":
            conditions.append((word, (table, tuple(draw.choice((-1, *constants)) for _ in range(tables[table])))))
        else:
            conditions.append((word, *drawn_terms(draw, bound, constants, 2)))
    draw.shuffle(conditions)
    return (name, drawn_terms(draw, bound, constants, widths[name]), tuple(conditions))


def drawn_terms(draw, variables, constants, many):
    return tuple(draw.choice(variables) if variables and draw.random() < 0.9 else draw.choice(constants)
                 for _ in range(many))
