"""Verdicts that are kept while a view grows."""

from soonestsaid.meaning import answers_of
from soonestsaid.rows import sorted_things
from soonestsaid.sure import Foil, Sure, find_verdict


def foil_among(inputs, fact):
    """Returns the first of the (rows, answers) that does not tell the fact, or None."""
    for rows, told in inputs:
        if fact not in told:
            return rows
    return None


class Kept:
    """The answers that are sure, and a foil of each other one, in the view looked at last."""

    def __init__(self, question):
        self.question = question
        self._papers = {}
        self._foils = {}

    @property
    def told(self):
        """All answers told so far, ascending."""
        return sorted_things(list(self._papers))

    @property
    def foils(self):
        """The (answer, rows) of the answers of the view's own rows that are not told, ascending."""
        return tuple([(fact, self._foils[fact]) for fact in sorted(self._foils)])

    def twin(self):
        """Returns equal verdicts, which are kept by themselves from now on."""
        other = Kept(self.question)
        other._papers = {fact: self._papers[fact] for fact in self._papers}
        other._foils = {fact: self._foils[fact] for fact in self._foils}
        return other

    def look(self, view):
        """Tells the answers that are sure by now; returns those that were not told before, with their papers."""
        answers = answers_of(self.question, view.rows)
        foils = {fact: rows for fact, rows in self._foils.items() if fact in answers and view.lets(rows)}
        found = []
        # One foil may show of many answers that they are not sure: the new ones, each with what it tells.
        fresh = []
        for fact in [fact for fact in answers if fact not in foils and fact not in self._papers]:
            foil = foil_among(fresh, fact)
            if foil is None:
                widened = self._widened(view, fact)
                fresh.extend(widened)
                foil = foil_among(widened, fact)
            if foil is None:
                verdict = find_verdict(self.question, view, fact)
                if isinstance(verdict, Sure):
                    found.append((fact, verdict.paper))
                    continue
                foil = verdict.rows
                fresh.append((foil, answers_of(self.question, foil)))
            foils[fact] = foil
        self._foils = foils
        for fact, paper in found:
            self._papers[fact] = paper
        return tuple(found)

    def _widened(self, view, fact):
        """Returns a list of the foil that a fact had, with the rows of the view, if there was one and it is let.

        Beside it stands what it tells; it may well tell the fact.
        """
        if fact not in self._foils:
            return []
        rows = sorted_things([*self._foils[fact], *view.rows])
        return [(rows, answers_of(self.question, rows))] if view.lets(rows) else []

    def ask(self, view, fact):
        """Returns the verdict about any fact, as it was kept if it still stands."""
        if fact in self._papers:
            return Sure(self._papers[fact])
        if fact in self._foils and view.lets(self._foils[fact]):
            return Foil(self._foils[fact])
        return find_verdict(self.question, view, fact)
