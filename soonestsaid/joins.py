"""Finding all ways to give a rule's variables worths so that its rows and facts are there."""


class Store:
    """Rows and facts, each laid once, found by the worths that they have at some of their places."""

    def __init__(self):
        # For each head and width: for each choice of places, the laid worths by what stands at these places.
        self.finders = {}

    def lay(self, head, worths):
        """Lays a row under its table or a fact under its name."""
        finders = self.finders.setdefault((head, len(worths)), {(): {}})
        for places, found in finders.items():
            found.setdefault(cells_at(worths, places), []).append(worths)

    def matching(self, head, width, places, cells):
        """Returns a list of the laid worths under the head that have these cells at the places."""
        finders = self.finders.get((head, width))
        if finders is None:
            return []
        if places not in finders:
            found = {}
            for worths in finders[()].get((), []):
                found.setdefault(cells_at(worths, places), []).append(worths)
            finders[places] = found
        return finders[places].get(cells, [])


def cells_at(worths, places):
    """Returns the worths at the places."""
    return tuple([worths[place] for place in places])


def bound_by(terms, worths, bound):
    """Returns the bound variables and those of the terms, which take the worths, or None if they cannot."""
    grown = dict(bound)
    for term, worth in zip(terms, worths):
        if isinstance(term, str):
            if grown.setdefault(term, worth) != worth:
                return None
        elif term != worth:
            return None
    return grown


def joined_with(store, wanted, bound):
    """Returns a list of all bindings that widen the bound one and put each wanted (head, terms) among what is laid."""
    bindings = [bound]
    for head, terms in wanted:
        bindings = [grown for binding in bindings for grown in joined_once(store, head, terms, binding)]
    return bindings


def joined_once(store, head, terms, bound):
    """Returns a list of the bindings that put one (head, terms) among what is laid."""
    places = tuple([at for at, term in enumerate(terms) if term in bound or not isinstance(term, str)])
    cells = tuple([bound.get(terms[at], terms[at]) for at in places])
    found = [bound_by(terms, worths, bound) for worths in store.matching(head, len(terms), places, cells)]
    return [grown for grown in found if grown is not None]
