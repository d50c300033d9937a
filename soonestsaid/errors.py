"""The errors of soonestsaid; the attributes tell what is wrong."""


class SayError(ValueError):
    """Stands over all errors of the program."""


class BadTables(SayError):
    """The widths of the tables are not as they must be."""

    def __init__(self, what):
        self.what = what


class BadRow(SayError):
    """A row of the tables is asked for, and this is none."""

    def __init__(self, what):
        self.what = what


class BadPattern(SayError):
    """A pattern of the tables is asked for, and this is none."""

    def __init__(self, what):
        self.what = what


class BadText(SayError):
    """A text cannot be read from this place on."""

    def __init__(self, place):
        self.place = place


class BadQuestion(SayError):
    """The rules make no question; rule is the number of the rule at fault, or None."""

    def __init__(self, rule, what):
        self.rule = rule
        self.what = what


class BadDealing(SayError):
    """The entries make no dealing; at is the index of the entry or table at fault."""

    def __init__(self, what, at):
        self.what = what
        self.at = at


class Sealed(SayError):
    """A new row is refused, since this pattern over it is sealed."""

    def __init__(self, pattern):
        self.pattern = pattern


class Forked(SayError):
    """Two wholes cannot be joined: one has this row, the other has sealed it without having it."""

    def __init__(self, row):
        self.row = row


class BadView(SayError):
    """The couples make no view; at is the index of the couple at fault."""

    def __init__(self, what, at):
        self.what = what
        self.at = at


class Torn(SayError):
    """A house has this row, and another home of it has sealed it without having it."""

    def __init__(self, row):
        self.row = row


class NotLet(SayError):
    """These rows cannot be all rows in the end, because of this one."""

    def __init__(self, row):
        self.row = row


class NotOpen(SayError):
    """Only an open row or pattern can be assumed, and this one is decided."""

    def __init__(self, thing):
        self.thing = thing


class BadPaper(SayError):
    """A paper is not right; place is the way from the root to the tree at fault."""

    def __init__(self, what, place):
        self.what = what
        self.place = place


class NotFlat(SayError):
    """A question without 'told' conditions is asked for."""


class BadCouple(SayError):
    """A couple of inputs does not show what it should."""

    def __init__(self, what):
        self.what = what


class UnlikeTables(SayError):
    """Two questions are over unlike tables."""


class NoHouse(SayError):
    """This is the number of no house."""

    def __init__(self, house):
        self.house = house


class NoHome(SayError):
    """The house is no home of this row."""

    def __init__(self, row):
        self.row = row


class NoDeed(SayError):
    """A net refuses a deed; at is the number of deeds done so far."""

    def __init__(self, what, at):
        self.what = what
        self.at = at


class NoLetter(SayError):
    """No letter has this number."""

    def __init__(self, number):
        self.number = number


class BadHouses(SayError):
    """The houses do not make a net."""


class TooWide(SayError):
    """A lot has too many rows."""

    def __init__(self, many):
        self.many = many


class AlreadyThere(SayError):
    """A row of a lot is there already."""

    def __init__(self, row):
        self.row = row


class NotOfRows(SayError):
    """A question of 'row' and 'unlike' conditions alone is asked for."""


class FewRows(SayError):
    """A lot of two to five rows is asked for."""


class BadDeed(SayError):
    """This is no deed of a desk."""


class NoQuestion(SayError):
    """No question has this name."""

    def __init__(self, name):
        self.name = name


class TakenName(SayError):
    """Another question has this name."""

    def __init__(self, name):
        self.name = name


class FullDesk(SayError):
    """A desk takes no further question."""


class BadStory(SayError):
    """A line of a story cannot stand where it stands."""

    def __init__(self, line):
        self.line = line
