"""What several test files need."""

import copy
import random


def drawing(seed):
    """A source of draws that is the same in each run."""
    return random.Random(seed)


def drawn_row(draw, tables, worths):
    table = draw.randrange(len(tables))
    return (table, tuple(draw.choice(worths) for _ in range(tables[table])))


def drawn_rows(draw, tables, worths, most):
    return tuple(sorted({drawn_row(draw, tables, worths) for _ in range(draw.randint(0, most))}))


def drawn_pattern(draw, tables, worths):
    return drawn_row(draw, tables, [-1, -1, *worths])


def shuffled(draw, things, doubles=True):
    """The things as a list in any order, some of them twice."""
    found = list(things)
    if doubles and found:
        found.extend(draw.choice(found) for _ in range(draw.randint(0, 2)))
    draw.shuffle(found)
    return found


def as_lists(thing):
    """The thing with lists in the place of all tuples."""
    if isinstance(thing, (tuple, list)):
        return [as_lists(part) for part in thing]
    return thing


def is_plain(thing):
    """Whether the thing is tuples through and through, down to numbers and strings."""
    if isinstance(thing, tuple):
        return all(is_plain(part) for part in thing)
    return not isinstance(thing, (list, dict, set))


def refuses(test, error, told, call, *args):
    """The call raises exactly this error, with these attributes, and changes nothing that it was passed."""
    before = copy.deepcopy(args)
    try:
        call(*args)
    except ValueError as found:
        test.assertIs(found.__class__, error, (args, found))
        test.assertEqual(found.__dict__, told, args)
    else:
        test.fail(f"{call.__name__}{args} raised nothing")
    test.assertEqual(args, before)


def unchanged(test, call, *args):
    """What the call returns; it changes nothing that it was passed."""
    before = copy.deepcopy(args)
    found = call(*args)
    test.assertEqual(args, before)
    return found
