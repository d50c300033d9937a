"""Texts of questions."""

from soonestsaid.signs import Scanner, listed, pattern_text
from soonestsaid.signs import read_name, read_number, read_pattern, read_tables, read_term, read_terms

CONDITION_WORDS = ("row ", "told ", "not ", "none ", "unlike(")


def question_text(tables, rules):
    """Returns the text of a question."""
    written = "; ".join([rule_text(rule) for rule in rules])
    return f"tables {listed(tables)}: {written}."


def rule_text(rule):
    """Returns the text of a rule."""
    name, terms, conditions = rule
    head = f"{name}({listed(terms)})"
    if not conditions:
        return head
    written = listed([condition_text(condition) for condition in conditions])
    return f"{head} <- {written}"


def condition_text(condition):
    """Returns the text of a condition."""
    word = condition[0]
    if word == "unlike":
        return f"unlike({listed(condition[1:])})"
    if word == "none":
        return f"none {pattern_text(condition[1])}"
    return f"{word} {condition[1]}({listed(condition[2])})"


def read_question(text):
    """Returns the tables and the rules of a question's text, or raises BadText."""
    scanner = Scanner(text)
    tables = read_tables(scanner)
    rules = []
    end = "; "
    while end == "; ":
        rule, end = read_rule(scanner)
        rules.append(rule)
    scanner.finish()
    return (tables, tuple(rules))


def read_rule(scanner):
    """Returns a rule and what stands behind it: the mark ahead of a further rule, or the full stop."""
    name = read_name(scanner)
    terms = read_terms(scanner)
    conditions = []
    end = scanner.take((" <- ", "; ", "."))
    while end in (" <- ", ", "):
        conditions.append(read_condition(scanner))
        end = scanner.take((", ", "; ", "."))
    return ((name, terms, tuple(conditions)), end)


def read_condition(scanner):
    """Reads a condition."""
    word = scanner.take(CONDITION_WORDS)
    if word == "unlike(":
        return read_unlike(scanner)
    if word == "none ":
        return ("none", read_pattern(scanner))
    named = read_name(scanner) if word == "told " else read_number(scanner)
    return (word.strip(), named, read_terms(scanner))


def read_unlike(scanner):
    """Reads the two terms of an 'unlike' condition, behind its opening bracket."""
    one = read_term(scanner)
    scanner.take((", ",))
    other = read_term(scanner)
    scanner.take((")",))
    return ("unlike", one, other)
