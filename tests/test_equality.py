"""Promise 0.5: which objects are equal, for each class of results and each class with ==."""

import unittest

from soonestsaid.assuming import Way
from soonestsaid.charts import Chart
from soonestsaid.dealings import Dealing
from soonestsaid.desk import Desk, Trial
from soonestsaid.fillings import Ground
from soonestsaid.foes import Foe
from soonestsaid.foilcourses import FoilCourse
from soonestsaid.houses import Said
from soonestsaid.judge import PaperFault, PaperWalk
from soonestsaid.letters import Letter
from soonestsaid.needs import Couple, Need
from soonestsaid.nets import Sent
from soonestsaid.questions import Question
from soonestsaid.spread import Carry
from soonestsaid.sure import Foil, Sure
from soonestsaid.views import View
from soonestsaid.wholes import Whole
from tests.helpers import content

# Each class of results with the attributes that its point names.
RESULTS = {
    Ground: ("head", "rows", "facts", "nots", "nones", "fits"), Way: ("derivation", "assumed"), Sure: ("paper",), Foil: ("rows",),
    PaperFault: ("what", "place"), PaperWalk: ("place", "derivation"), Need: ("word", "couples"), Couple: ("inner", "outer", "fact"),
    Letter: ("sender", "wholes", "asks"), Said: ("moment", "answer", "paper"), Sent: ("sender", "receiver", "carried", "source"),
    FoilCourse: ("deeds", "heard", "rows"), Chart: ("lot", "truths"), Foe: ("number", "turns", "ends"), Carry: ("lot", "dealing"),
    Trial: ("tolds", "refused")}
OTHERS = (None, (), [], {}, "", 0, 1, True, object())
ONE = [(0, 0, [(0,)])]


def dealings():
    both = [(0, 0, [(0,)]), (1, 0, [(0,)])]
    return [Dealing((1,), 1, 1, ONE), Dealing((2,), 1, 1, [(0, 0, [(0,), (0,)])]), Dealing((1,), 2, 1, ONE), Dealing((1,), 2, 1, both),
            Dealing((1,), 1, 2, [(0, 0, [(0, 1)])]), Dealing((1,), 1, 1, ONE, [((0, (3,)), (0,))]),
            Dealing((1,), 1, 1, ONE, [((0, (4,)), (0,))])]


def questions():
    rule = ("answer", (), ())
    return [Question((1,), [rule]), Question((1, 1), [rule]), Question((1,), [rule, rule]), Question((1,), [("answer", (1,), ())])]


def wholes():
    row, seal = (0, (1,)), (0, (-1,))
    return [Whole(), Whole([row]), Whole([], [row]), Whole([row], [seal]), Whole([], [seal])]


def views():
    one, two = dealings()[:3:2]
    row = Whole([(0, (1,))])
    return [View(one), View(two), View(one, [(0, row)]), View(two, [(0, row)]), View(one, [(0, Whole([], [(0, (1,))]))])]


def desks():
    found = [Desk(dealing) for dealing in dealings()] + [Desk(dealings()[0], True)]
    for deeds in ([("put", (0, (1,)))], [("ask", "a", [("answer", (), ())])], [("ask", "b", [("answer", (), ())])],
                  [("ask", "a", [("answer", (1,), ())])]):
        desk = Desk(dealings()[0])
        for deed in deeds:
            desk.do_deed(deed)
        found.append(desk)
    return found


class EqualityTest(unittest.TestCase):
    def test_results_by_their_attributes(self):
        for kind, names in RESULTS.items():
            told = [(number, ()) for number in range(len(names))]
            one = kind(*told)
            self.assertEqual(vars(one), dict(zip(names, told)), kind)
            self.assertEqual([getattr(one, name) for name in names], told)
            self.assertTrue(one == kind(*told) and not one != kind(*told))
            self.assertTrue(one == kind(**dict(zip(names, told))))
            for at in range(len(names)):
                other = kind(*told[:at], "else", *told[at + 1:])
                self.assertFalse(one == other or other == one, (kind, names[at]))
                self.assertTrue(one != other)

    def test_a_result_keeps_what_it_is_given(self):
        for kind, names in RESULTS.items():
            given = [[object()] for _ in names]
            one = kind(*given)
            for name, thing in zip(names, given):
                self.assertIs(getattr(one, name), thing)

    def test_classes_that_check(self):
        for made in (dealings, questions, wholes, views, desks):
            for at, one in enumerate(made()):
                for by, other in enumerate(made()):
                    self.assertEqual(one == other, at == by, (made.__name__, at, by))
                    self.assertEqual(one != other, at != by)

    def test_unlike_objects_of_other_classes(self):
        class Alike:
            """Has all attributes that any class has."""

        things = [kind(*[(0, ())] * len(names)) for kind, names in RESULTS.items()]
        things += [made()[0] for made in (dealings, questions, wholes, views, desks)]
        for at, one in enumerate(things):
            for by, other in enumerate(things):
                self.assertEqual(one == other, at == by)
            alike = Alike()
            vars(alike).update(vars(one))
            for other in (*OTHERS, alike, tuple(vars(one).values()), list(vars(one).values()), dict(vars(one)), one.__class__):
                self.assertFalse(one == other, one)
                self.assertFalse(other == one, one)
                self.assertTrue(one != other)

    def test_looking_changes_nothing(self):
        for one in (*dealings(), *questions(), *wholes(), *views(), *desks()):
            held = content(one)
            self.assertTrue(one == one and one != () and not one == None)
            self.assertEqual(content(one), held)


if __name__ == "__main__":
    unittest.main()
