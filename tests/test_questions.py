"""Promises 3.1 to 3.4: questions."""

import unittest

from soonestsaid.errors import BadQuestion, BadTables
from soonestsaid.questions import Question, variables_of
from tests.helpers import as_lists, drawing, drawn_rules, is_plain, refuses, unchanged

FAR = 10 ** 60
TABLES = (1, 2)
NO_SEQUENCES = (None, 3, True, "ab", "", {}, {0: 1}, set(), {1})
# A condition that leaves no variable loose.
BOUND = ("row", 1, ("x", "y"))
ANSWER = ("answer", (), ())
NO_NAMES = (None, 3, True, "", "abcdefghi", "A", "x1", "x_", "x ", " x", "x\n", "*", ("x",), ["x"], b"x", "{", "`")
NO_TERMS = (None, -1, True, False, 1.0, "", "abcdefghi", "X", "x1", "-1", "*", ("x",), [1], b"x")


def answer(*conditions, head=()):
    return ("answer", head, conditions)


class FaultTest(unittest.TestCase):
    def fault(self, rules, number, what, tables=TABLES):
        refuses(self, BadQuestion, {"rule": number, "what": what}, Question, tables, rules)

    def form(self, rule):
        self.fault([rule], 0, "form")
        self.fault([ANSWER, rule], 1, "form")
        self.fault((ANSWER, ANSWER, rule, ("other", 5, 5)), 2, "form")

    def test_tables_come_first(self):
        for tables, what in (((), "many"), ((1, 1, 1, 1), "many"), ("1", "many"), ((0,), "width"), ((True,), "width")):
            for rules in ((ANSWER,), (), None, (("no",),)):
                refuses(self, BadTables, {"what": what}, Question, tables, rules)

    def test_rules(self):
        for rules in (*NO_SEQUENCES, (), [], (ANSWER,) * 7, [("no",)] * 7):
            self.fault(rules, None, "rules")
        self.assertEqual(len(Question(TABLES, [ANSWER] * 6).rules), 6)

    def test_form_of_the_rule(self):
        for rule in (*NO_SEQUENCES, (), ("answer", ()), ("answer", (), (), ()), ["answer"]):
            self.form(rule)

    def test_form_of_the_head(self):
        for name in NO_NAMES:
            self.form((name, (), ()))
        for terms in (*NO_SEQUENCES, (1, 1, 1, 1), ["x"] * 4):
            self.form(("answer", terms, (BOUND,)))
        for term in NO_TERMS:
            self.form(("answer", (term,), ()))
            self.form(("answer", ("x", 1, term), (BOUND,)))

    def test_form_of_the_conditions(self):
        for conditions in (*NO_SEQUENCES, (BOUND,) * 6, [BOUND] * 7):
            self.form(("answer", (), conditions))
        for condition in (*NO_SEQUENCES, (), ("row",), ("row", 0), ("row", 0, ("x",), 1), ("rows", 0, ("x",)),
                          ("Row", 0, ("x",)), (None, 0, ("x",)), (["row"], 0, ("x",)), ("answer", 0, ("x",)),
                          ("told", "pair"), ("told", "pair", (), ()), ("not", 0), ("not", 0, ("x",), ()),
                          ("none",), ("none", (0, (-1,)), 0), ("unlike",), ("unlike", "x"), ("unlike", "x", "y", "y"),
                          ("unlike", ("x", "y")), ("none", 0, (-1,))):
            self.form(answer(condition))
            self.form(answer(BOUND, condition))

    def test_form_of_terms_and_cells(self):
        for terms in NO_SEQUENCES:
            for condition in (("row", 0, terms), ("told", "pair", terms), ("not", 0, terms), ("none", (0, terms))):
                self.form(answer(condition))
        for term in NO_TERMS:
            for condition in (("row", 0, (term,)), ("row", 1, ("x", term)), ("told", "pair", ("x", 1, term)),
                              ("not", 0, (term,)), ("not", 1, (0, term)), ("unlike", term, 0), ("unlike", 0, term)):
                self.form(answer(condition))
        for cell in (None, -2, True, False, 1.0, "x", "*", "", (1,), [1]):
            self.form(answer(("none", (0, (cell,)))))
            self.form(answer(("none", (1, (-1, cell)))))
        for name in NO_NAMES:
            self.form(answer(("told", name, ())))
        for pattern in (*NO_SEQUENCES, (), (0,), (0, (-1,), 0)):
            self.form(answer(("none", pattern)))

    def test_form_of_many_variables(self):
        one, two, three = ("row", 1, ("x", "y")), ("row", 1, ("z", "w")), ("row", 0, ("v",))
        Question(TABLES, [answer(one, two, head=("x", "w", "z"))])
        for rule in (answer(one, two, three), answer(one, two, head=("v",)), answer(one, two, ("not", 0, ("v",))),
                     answer(one, two, ("unlike", "v", 3)), answer(one, two, ("told", "pair", ("v",))),
                     answer(("told", "pair", ("a", "b", "c", "d", "e"))),
                     answer(("not", 0, ("a",)), ("unlike", "b", "c"), head=("d", "e"))):
            self.form(rule)

    def test_what_does_not_count_for_the_form(self):
        for table in (None, "x", -1, 7, True, 1.5, [1], (), FAR):
            self.fault([answer(("row", table, ("x",)))], 0, "table")
            self.fault([answer(("none", (table, (-1,))))], 0, "table")
            self.fault([answer(("not", table, ("x",)))], 0, "not" if isinstance(table, str) else "table")
            # A fault of the form stands ahead of it, also if it comes later in the rule.
            self.fault([answer(("row", table, ("x",)), ("told", "X", ()))], 0, "form")
        for terms in ((), ("x",) * 3, (1,) * 9):
            self.fault([answer(("row", 1, terms))], 0, "width")
            self.fault([answer(("not", 1, terms))], 0, "width")
        for cells in ((), (-1,), (-1,) * 9):
            self.fault([answer(("none", (1, cells)))], 0, "width")

    def test_width_of_heads(self):
        self.fault([("pair", (1,), ()), ("pair", (1, 1), ()), ANSWER], 1, "width")
        self.fault([ANSWER, ("answer", (1,), ())], 1, "width")
        self.fault([answer(("told", "pair", (1,))), ("pair", (), ())], 1, "width")
        self.fault([ANSWER, ("pair", (), ()), ("pair", (1,), (("not", "no", ()),))], 2, "width")
        self.fault([answer(("told", "pair", (1, 2, 3, 4))), ("pair", (1, 2, 3), ())], 1, "width")

    def test_width_of_conditions(self):
        for condition in (("row", 0, (1, 1)), ("row", 1, (1,)), ("not", 0, ()), ("not", 1, (1,) * 3), ("none", (0, ())),
                          ("none", (1, (-1,)))):
            self.fault([answer(condition)], 0, "width")
        self.fault([answer(("told", "answer", (1,)))], 0, "width")
        self.fault([answer(("told", "pair", (1,)), ("told", "pair", (1, 2)))], 0, "width")
        self.fault([answer(("told", "pair", (1,))), ("far", (), (("told", "pair", ()),))], 1, "width")
        self.fault([("pair", (1,), ()), answer(("told", "pair", ()))], 1, "width")
        Question(TABLES, [answer(("told", "pair", (1,) * 9)), ("far", (), (("told", "pair", (2,) * 9),))])

    def test_conditions_one_after_the_other(self):
        faults = {
            "not": ("not", "pair", ("x",)), "table": ("row", 2, ("x",)), "width": ("row", 0, ("x", "x"))}
        for what, condition in faults.items():
            for other in faults.values():
                self.fault([answer(BOUND, condition, other)], 0, what)
        self.fault([answer(("told", "answer", (1,)), faults["table"])], 0, "width")
        self.fault([answer(faults["table"], ("told", "answer", (1,)))], 0, "table")
        # Within one condition "not" comes ahead of "width", and "table" as well.
        self.fault([answer(("not", "pair", ()))], 0, "not")
        self.fault([answer(("not", 5, ()))], 0, "table")
        self.fault([answer(("none", (None, ())))], 0, "table")
        # The width of the head comes ahead of the conditions.
        self.fault([ANSWER, answer(faults["not"], head=(1,))], 1, "width")

    def test_tables_bound_the_numbers(self):
        self.fault([answer(("row", 1, ("x",)))], 0, "table", tables=(1,))
        Question((1, 1), [answer(("row", 1, ("x",)))])
        self.fault([answer(("row", 2, ("x",)))], 0, "table", tables=(1, 1))

    def test_loose(self):
        for rule in (("answer", ("x",), ()), answer(("not", 0, ("x",))), answer(("unlike", "x", 1)),
                     answer(("unlike", 1, "x")), answer(BOUND, head=("x", "z")), answer(BOUND, ("not", 1, ("x", "z"))),
                     answer(("told", "pair", ("x",)), ("unlike", "x", "y"))):
            self.fault([rule], 0, "loose")
        for rule in (answer(BOUND, head=("x", "y")), answer(("not", 0, ("x",)), BOUND),
                     answer(("unlike", "x", "z"), ("told", "pair", ("z",)), BOUND)):
            Question(TABLES, [rule])
        self.fault([answer(("unlike", "x", 1), ("row", 5, ("y",)))], 0, "table")
        # A variable that another rule binds is loose all the same.
        self.fault([answer(BOUND), ("pair", ("x",), ())], 1, "loose")

    def test_the_first_rule_at_fault(self):
        loose, form = ("answer", ("x",), ()), ("answer", ())
        self.fault([loose, form], 0, "loose")
        self.fault([form, loose], 0, "form")
        self.fault([("pair", (), ()), loose, form], 1, "loose")
        self.fault([("pair", (), ()), ("far", ("x",), ())], 1, "loose")

    def test_no_answer(self):
        for rules in ([("pair", (), ())], [("answers", (), ()), ("pair", (), (("told", "answer", ()),))]):
            self.fault(rules, None, "answer")


class QuestionTest(unittest.TestCase):
    RULES = (
        ("pair", ("y", 9), (("row", 1, ("x", "y")), ("not", 0, (3,)), ("none", (1, (-1, 7))), ("unlike", "x", 5))),
        ("answer", (FAR, "x"), (("told", "pair", ("x", 8)), ("none", (0, (-1,))), ("none", (1, (-1, 7))))),
        ("answer", (0, 3), (("row", 1, (2, "z")), ("unlike", 11, "z"))))

    def test_attributes(self):
        question = unchanged(self, Question, TABLES, self.RULES)
        self.assertEqual(question.tables, TABLES)
        self.assertEqual(question.rules, self.RULES)
        self.assertEqual(question.constants, (0, 2, 3, 5, 7, 8, 9, 11, FAR))
        self.assertEqual(question.patterns, ((0, (-1,)), (1, (-1, 7))))
        self.assertEqual(question.names, ("answer", "pair"))

    def test_bare_attributes(self):
        question = Question([3], [ANSWER])
        self.assertEqual((question.tables, question.rules), ((3,), (ANSWER,)))
        self.assertEqual((question.constants, question.patterns), ((), ()))
        self.assertEqual(question.names, ("answer",))

    def test_lists_become_tuples(self):
        question = unchanged(self, Question, list(TABLES), as_lists(self.RULES))
        for found in (question.tables, question.rules, question.constants, question.patterns, question.names):
            self.assertTrue(is_plain(found), found)
        self.assertEqual(question.rules, self.RULES)

    def test_later_changes_mean_nothing(self):
        tables, rules = list(TABLES), as_lists(self.RULES)
        question = Question(tables, rules)
        tables[0] = 3
        rules[0][1][0] = "z"
        rules[0][2][0][2][0] = 4
        rules[0][2][2][1][1][0] = 5
        rules[1][2].clear()
        rules.pop()
        self.assertEqual((question.tables, question.rules), (TABLES, self.RULES))

    def test_flat_and_of_rows(self):
        for conditions, flat, of_rows in (
                ((), True, True), ((BOUND,), True, True), ((BOUND, ("unlike", "x", "y")), True, True),
                ((("told", "far", ()),), False, False), ((("not", 0, (1,)),), True, False),
                ((("none", (0, (1,))),), True, False), ((BOUND, ("not", 0, ("x",)), ("told", "far", ())), False, False)):
            for rules in ([answer(*conditions)], [ANSWER, ("pair", (), conditions)], [("pair", (), conditions), ANSWER]):
                question = Question(TABLES, rules)
                self.assertIs(question.flat, flat)
                self.assertIs(question.of_rows, of_rows)

    def test_equal(self):
        question = Question(TABLES, self.RULES)
        self.assertTrue(question == Question(list(TABLES), as_lists(self.RULES)))
        self.assertFalse(question != Question(TABLES, self.RULES))
        for other in (Question((1, 2, 1), self.RULES), Question(TABLES, self.RULES[1:]),
                      Question(TABLES, self.RULES[::-1]), TABLES, self.RULES, (TABLES, self.RULES), None, 5):
            self.assertTrue(question != other)
            self.assertFalse(question == other)

    def test_longest_names(self):
        rules = (("answer", ("abcdefgh",), (("told", "zyxwvuts", ("abcdefgh", "a")), ("unlike", "a", "abcdefgh"))),
                 ("zyxwvuts", (0, FAR), ()))
        self.assertEqual(Question(TABLES, rules).rules, rules)

    def test_drawn_rules_are_right(self):
        draw = drawing(41)
        for _ in range(300):
            tables = tuple(draw.randint(1, 3) for _ in range(draw.randint(1, 3)))
            rules = drawn_rules(draw, tables)
            self.assertEqual(Question(tables, rules).rules, rules)


class VariablesTest(unittest.TestCase):
    def test_order_in_the_conditions(self):
        for rule, expected in (
                (("answer", (), ()), ()),
                (("answer", (4,), (("row", 0, (4,)),)), ()),
                (("answer", ("a", "b"), (("row", 1, ("b", "a")),)), ("b", "a")),
                (("answer", ("y",), (("unlike", "z", "y"), ("row", 1, ("x", "z")), ("told", "p", ("y", "x")))),
                 ("z", "y", "x")),
                (("answer", (), (("not", 1, ("w", 3)), ("none", (0, (-1,))), ("told", "p", ("x", "w", "y")))),
                 ("w", "x", "y")),
                (("answer", (), (("row", 1, ("x", "x")), ("row", 1, ("a", "x")))), ("x", "a"))):
            self.assertEqual(unchanged(self, variables_of, rule), expected)


if __name__ == "__main__":
    unittest.main()
