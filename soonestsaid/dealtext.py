"""Texts of dealings and of deeds."""

from soonestsaid.signs import Scanner, listed, pattern_text, read_number, read_pattern, read_row, read_tables

ACCEPT = "; accept "
EXCEPTION = "; row "
DEED_WORDS = ("put ", "seal ", "send ", "hand ", "double ", "lose ", "stop ")


def dealing_text(tables, houses, modulus, accepts, exceptions):
    """Returns the text of a dealing."""
    head = f"tables {listed(tables)}: houses {houses}, modulus {modulus}"
    parts = [head, *[accept_text(accept) for accept in accepts]]
    parts.extend([f"row {pattern_text(row)} to {summed(group)}" for row, group in exceptions])
    return "; ".join(parts) + "."


def accept_text(accept):
    """Returns the text of an accept."""
    house, table, rests = accept
    written = listed([summed(column) for column in rests])
    return f"accept {house} {table}({written})"


def summed(numbers):
    """Returns the numbers with + between them."""
    return "+".join([str(number) for number in numbers])


def read_dealing(text):
    """Returns the tables, houses, modulus, accepts and exceptions of a dealing's text, or raises BadText."""
    scanner = Scanner(text)
    tables = read_tables(scanner)
    scanner.take(("houses ",))
    houses = read_number(scanner)
    scanner.take((", modulus ",))
    modulus = read_number(scanner)
    accepts = []
    exceptions = []
    end = scanner.take((ACCEPT, EXCEPTION, "."))
    while end == ACCEPT:
        accepts.append(read_accept(scanner))
        end = scanner.take((ACCEPT, EXCEPTION, "."))
    while end == EXCEPTION:
        row = read_row(scanner)
        scanner.take((" to ",))
        group, end = read_summed(scanner, (EXCEPTION, "."))
        exceptions.append((row, group))
    scanner.finish()
    return (tables, houses, modulus, tuple(accepts), tuple(exceptions))


def read_accept(scanner):
    """Reads an accept, behind its word."""
    house = read_number(scanner)
    scanner.take((" ",))
    table = read_number(scanner)
    scanner.take(("(",))
    rests = []
    if scanner.sees(")"):
        end = scanner.take((")",))
    else:
        end = ", "
    while end == ", ":
        column, end = read_summed(scanner, (", ", ")"))
        rests.append(column)
    return (house, table, tuple(rests))


def read_summed(scanner, ends):
    """Returns one number or more, with + between them, and which of the ends stands behind them."""
    numbers = [read_number(scanner)]
    end = scanner.take(("+", *ends))
    while end == "+":
        numbers.append(read_number(scanner))
        end = scanner.take(("+", *ends))
    return (tuple(numbers), end)


def deed_text(deed):
    """Returns the text of a deed."""
    word = deed[0]
    if word == "put":
        return f"put {pattern_text(deed[1])}."
    if word == "seal":
        return f"seal {deed[1]} {pattern_text(deed[2])}."
    return " ".join([str(part) for part in deed]) + "."


def read_deed(text):
    """Returns the deed of a deed's text, or raises BadText."""
    scanner = Scanner(text)
    word = scanner.take(DEED_WORDS).strip()
    if word == "put":
        parts = (read_row(scanner),)
    elif word == "seal":
        house = read_number(scanner)
        scanner.take((" ",))
        parts = (house, read_pattern(scanner))
    elif word == "send":
        sender = read_number(scanner)
        scanner.take((" ",))
        parts = (sender, read_number(scanner))
    else:
        parts = (read_number(scanner),)
    scanner.take((".",))
    scanner.finish()
    return (word, *parts)
