"""Reading a text sign by sign, and the forms that texts of all kinds share."""

from soonestsaid.errors import BadText
from soonestsaid.patterns import STAR

DIGITS = "0123456789"
LETTERS = "abcdefghijklmnopqrstuvwxyz"
MOST_DIGITS = 100
MOST_LETTERS = 8


class Scanner:
    """A place in a text that moves forward while right signs stand there; at the first wrong one BadText is raised."""

    def __init__(self, text):
        if not isinstance(text, str):
            raise BadText(0)
        self.text = text
        self.place = 0

    def sees(self, signs):
        """Returns whether the next sign is one of these."""
        sign = self.text[self.place:self.place + 1]
        return sign != "" and sign in signs

    def take(self, words):
        """Passes and returns the word that stands here; none of the words is the beginning of another one."""
        most = 0
        for word in words:
            many = alike_signs(self.text, self.place, word)
            if many == len(word):
                self.place += many
                return word
            most = max(most, many)
        raise BadText(self.place + most)

    def take_signs(self, signs, most):
        """Passes and returns as many of these signs as stand here, at least one and at most `most`."""
        begin = self.place
        bound = min(begin + most, len(self.text))
        while self.place < bound and self.sees(signs):
            self.place += 1
        if self.place == begin:
            raise BadText(begin)
        return self.text[begin:self.place]

    def finish(self):
        """Sees to it that nothing stands behind what was read."""
        if self.place < len(self.text):
            raise BadText(self.place)


def alike_signs(text, place, word):
    """Returns how many of the word's first signs stand in the text from the place on."""
    many = 0
    while many < len(word) and text[place + many:place + many + 1] == word[many]:
        many += 1
    return many


def read_number(scanner):
    """Reads a number; no digit belongs to it behind a first 0."""
    return int(scanner.take_signs(DIGITS, 1 if scanner.sees("0") else MOST_DIGITS))


def read_name(scanner):
    """Reads a name."""
    return scanner.take_signs(LETTERS, MOST_LETTERS)


def read_term(scanner):
    """Reads a name or a number."""
    return read_name(scanner) if scanner.sees(LETTERS) else read_number(scanner)


def read_cell(scanner):
    """Reads a star or a number."""
    if scanner.sees("*"):
        scanner.take(("*",))
        return STAR
    return read_number(scanner)


def read_chain(scanner, read_one, between, end):
    """Reads one thing or more, with `between` between two of them, and the end behind them."""
    found = [read_one(scanner)]
    while scanner.take((between, end)) == between:
        found.append(read_one(scanner))
    return tuple(found)


def read_list(scanner, read_one, end):
    """Reads the things of a pair of brackets, perhaps none, and the sign that ends them."""
    if scanner.sees(end):
        scanner.take((end,))
        return ()
    return read_chain(scanner, read_one, ", ", end)


def read_terms(scanner):
    """Reads terms in round brackets."""
    scanner.take(("(",))
    return read_list(scanner, read_term, ")")


def read_row(scanner):
    """Reads a row: a number and worths in round brackets."""
    table = read_number(scanner)
    scanner.take(("(",))
    return (table, read_list(scanner, read_number, ")"))


def read_pattern(scanner):
    """Reads a pattern: a number and cells in round brackets."""
    table = read_number(scanner)
    scanner.take(("(",))
    return (table, read_list(scanner, read_cell, ")"))


def read_tables(scanner):
    """Reads the widths of the tables, and the colon behind them."""
    scanner.take(("tables ",))
    return read_chain(scanner, read_number, ", ", ": ")


def listed(parts):
    """Returns the parts (strings or numbers) as they stand in brackets."""
    return ", ".join([str(part) for part in parts])


def pattern_text(pattern):
    """Returns the text of a row or a pattern."""
    table, cells = pattern
    written = listed(["*" if cell == STAR else cell for cell in cells])
    return f"{table}({written})"


def patterns_text(patterns):
    """Returns the texts of rows or patterns as they stand in brackets."""
    return listed([pattern_text(pattern) for pattern in patterns])
