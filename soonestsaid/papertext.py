"""Texts of papers."""

from soonestsaid.signs import Scanner, pattern_text, patterns_text, read_list, read_number, read_pattern, read_row

MOST_BRACKETS = 40
TREE_WORDS = ("told[", "row ", "none ")
# What the forty-first curly bracket would have to stand in cannot begin.
LAST_WORDS = ("told[",)


def paper_text(heard, tree):
    """Returns the text of a paper."""
    entries = "; ".join([f"{house}[{patterns_text(rows)}][{patterns_text(seals)}]" for house, rows, seals in heard])
    return f"{entries}: {tree_text(tree)}."


def tree_text(tree):
    """Returns the text of a tree."""
    word = tree[0]
    if word == "told":
        # A step is written as a row is: its number, then its filling in brackets.
        return f"told[{patterns_text(tree[1])}]"
    parts = [word, " ", pattern_text(tree[1]), "{", tree_text(tree[2]), "}"]
    if word == "row":
        parts.extend(["{", tree_text(tree[3]), "}"])
    else:
        for row, branch in tree[3]:
            parts.extend(["{", pattern_text(row), ": ", tree_text(branch), "}"])
    return "".join(parts)


def read_paper(text):
    """Returns what was heard and the tree of a paper's text, or raises BadText."""
    scanner = Scanner(text)
    heard = []
    # A paper that has heard nothing begins with the colon.
    end = ": " if scanner.sees(":") else "; "
    if end == ": ":
        scanner.take((end,))
    while end == "; ":
        heard.append(read_heard(scanner))
        end = scanner.take(("; ", ": "))
    tree = read_tree(scanner, 0)
    scanner.take((".",))
    scanner.finish()
    return (tuple(heard), tree)


def read_heard(scanner):
    """Reads an entry: a house, its rows and its seals."""
    house = read_number(scanner)
    scanner.take(("[",))
    rows = read_list(scanner, read_row, "]")
    scanner.take(("[",))
    return (house, rows, read_list(scanner, read_pattern, "]"))


def read_tree(scanner, depth):
    """Reads a tree that stands within `depth` curly brackets."""
    word = scanner.take(TREE_WORDS if depth < MOST_BRACKETS else LAST_WORDS)
    if word == "told[":
        return ("told", read_list(scanner, read_row, "]"))
    if word == "row ":
        row = read_row(scanner)
        lacking = read_branch(scanner, depth)
        return ("row", row, lacking, read_branch(scanner, depth))
    pattern = read_pattern(scanner)
    empty = read_branch(scanner, depth)
    cases = []
    while scanner.sees("{"):
        cases.append(read_case(scanner, depth))
    return ("none", pattern, empty, tuple(cases))


def read_branch(scanner, depth):
    """Reads a tree in curly brackets."""
    scanner.take(("{",))
    tree = read_tree(scanner, depth + 1)
    scanner.take(("}",))
    return tree


def read_case(scanner, depth):
    """Reads a row and its tree in curly brackets."""
    scanner.take(("{",))
    row = read_row(scanner)
    scanner.take((": ",))
    tree = read_tree(scanner, depth + 1)
    scanner.take(("}",))
    return (row, tree)
