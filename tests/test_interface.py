"""The interface: each name stands in its file, with its arguments; each listed method in its class itself."""

import ast
import inspect
import unittest

from tests.test_language import TREES

# For each file its functions and its classes, with the arguments; "name:" begins a class, and its methods follow.
LISTED = """
rows is_whole(thing, low=None, high=None) check_tables(tables) check_row(tables, row) check_rows(tables, rows)
rows sorted_things(things) worths_of(rows) cut_rows(rows, worths) renamed_rows(rows, names)
patterns check_pattern(tables, pattern) check_patterns(tables, patterns) covers(pattern, other) meeting(one, other)
patterns rows_of(pattern, worths) all_rows(tables, worths) new_worth(known, rest, modulus) typical_rows(pattern, worths, modulus)
questiontext question_text(tables, rules) read_question(text)
dealtext dealing_text(tables, houses, modulus, accepts, exceptions) read_dealing(text) deed_text(deed) read_deed(text)
papertext paper_text(heard, tree) read_paper(text)
questions variables_of(rule) Question(tables, rules)
fillings ground(question, number, filling) find_fillings(question, number, rows, facts=()) frozen_fillings(question, number, more=())
fillings Ground(head, rows, facts, nots, nones, fits)
meaning basis_facts(question, basis) told_facts(question, rows) answers_of(question, rows) basis_derivation(question, basis, fact)
meaning derivation_of(question, rows, fact) basis_fault(question, basis, fact, derivation)
meaning derivation_fault(question, rows, fact, derivation) Given(rows) .lacks(row) .without(pattern)
dealings Dealing(tables, houses, modulus, accepts, exceptions=()) .homes(row) .part_of(rows, house) .home_groups(pattern)
dealings .missed_row(group, pattern) .lacking_home(group) .closing_groups(pattern)
wholes Whole(rows=(), seals=()) .has_row(row) .first_seal(row) .with_row(row) .with_seal(pattern) .grown(other) .joined(other)
views View(dealing, wholes=()) .whole_of(house) .mark(row) .lets(rows) .first_open(pattern) .empty(pattern) .lacks(row)
views .without(pattern) .settled() .widens(other) .joined(other) .ended(rows)
marks first_marks(question, view, fact) Marks(view, worths=(), there=(), lacking=(), empties=()) .mark(row) .empty(pattern)
marks .lets(rows) .lacks(row) .without(pattern) .with_there(row) .with_lacking(row) .with_empty(pattern)
assuming first_way(question, marks, fact) Way(derivation, assumed)
cases breaking_rows(marks, pattern) branches_of(marks, assumption)
sure heard_of(view) find_verdict(question, view, fact) is_sure(question, view, fact) sure_answers(question, view) Sure(paper) Foil(rows)
keptsure Kept(question) .look(view) .ask(view, fact)
judge paper_fault(question, view, fact, paper) foil_fault(question, view, fact, rows) leaf_places(paper)
judge walk_paper(question, view, fact, paper, rows) PaperFault(what, place) PaperWalk(place, derivation)
needs find_need(question) body_couple(question, rule, filling, word) couple_fault(question, couple, word) Need(word, couples)
needs Couple(inner, outer, fact)
sealing enough_seals(question, rows) lead_beyond(question, couple, rows) join_questions(one, other)
letters Letter(sender, wholes, asks=())
houses Said(moment, answer, paper) House(question, dealing, house) .put(row) .seal(pattern) .hear(letter) .letter(receiver)
nets play_course(question, dealing, course) Sent(sender, receiver, carried, source) Net(question, dealing, houses=()) .do(deed)
nets .run(course) .sent(number) .past(house) .begun(house) .end()
hearings heard_by(dealing, course, house, many=None) first_difference(one, other)
foilcourses past_deeds(net, house) foil_course(net, house, fact) foil_course_fault(net, house, fact, foil)
foilcourses FoilCourse(deeds, heard, rows)
charts outcome_rows(lot, outcome) chart_of(question, rows, lot, fact) settled_by(chart, standing) asking_dealing(tables, lot)
charts asking_view(tables, rows, lot, standing) Chart(lot, truths)
plans plan_depth(plan) walk_plan(plan, outcome) plan_fault(chart, plan) least_plan(chart)
foes find_foe(chart, number) foe_fault(chart, number, foe) Foe(number, turns, ends)
probes settles(chart, outcome, places) least_probes(chart, outcome)
spread least_facts(question, lot) least_fillings(question, worths=(), modulus=1) common_homes(dealing, lot)
spread silent_answers(question, dealing, rows) unmet_lot(question, dealing) wider_lot(question, lot) spread_out(tables, lot)
spread carried_fault(one, other) Carry(lot, dealing)
sparing ask_for(question, view, fact, rows) sparing_net(question, dealing) Sparing(question, dealing, house) .put(row)
sparing .seal(pattern) .hear(letter) .letter(receiver)
desk Trial(tolds, refused) Desk(dealing, sparing=False) .do_deed(deed) .trial_deeds(deeds)
stories print_deeds(tables, deeds) read_deeds(tables, text) put_away(desk) taken_up(text)
"""
PROPERTIES = {("questions", "Question"): ("flat", "of_rows"), ("keptsure", "Kept"): ("told", "foils"), ("houses", "House"): ("told",)}


def listed():
    """Each listed thing: its file, its class or None, its name, its arguments."""
    kind = None
    for line in LISTED.strip().splitlines():
        file, _, rest = line.partition(" ")
        for part in [part + ")" for part in rest.replace("=()", "=[]").split(")")[:-1]]:
            name, _, arguments = part.strip().partition("(")
            if name.startswith("."):
                yield file, kind, name[1:], "(" + arguments.replace("=[]", "=()")
            else:
                kind = name if name[0].isupper() else None
                yield file, None, name, "(" + arguments.replace("=[]", "=()")


class InterfaceTest(unittest.TestCase):
    def test_each_name_is_defined_in_its_file(self):
        seen = 0
        for file, kind, name, arguments in listed():
            tree = TREES[file + ".py"]
            module = __import__("soonestsaid." + file, fromlist=[name])
            if kind is None:
                defined = [node.name for node in tree.body if isinstance(node, (ast.FunctionDef, ast.ClassDef))]
                found = getattr(module, name)
            else:
                body = [node for node in tree.body if isinstance(node, ast.ClassDef) and node.name == kind][0].body
                defined = [node.name for node in body if isinstance(node, ast.FunctionDef)]
                found = getattr(module, kind).__dict__[name]
            self.assertIn(name, defined, file)
            told = str(inspect.signature(found))
            self.assertEqual(told.replace("(self, ", "(").replace("(self)", "()"), arguments, (file, kind, name))
            seen += 1
        self.assertEqual(seen, 164)

    def test_properties_and_values(self):
        for (file, kind), names in PROPERTIES.items():
            found = getattr(__import__("soonestsaid." + file, fromlist=[kind]), kind)
            for name in names:
                self.assertIsInstance(vars(found)[name], property)
        from soonestsaid.patterns import STAR
        self.assertEqual(STAR, -1)

    def test_desks_are_measured_and_iterated_over(self):
        from soonestsaid.desk import Desk
        for name in ("__len__", "__iter__", "__eq__"):
            self.assertIn(name, vars(Desk))


if __name__ == "__main__":
    unittest.main()
