"""Stories: the deeds of desks as texts of one line each."""

from soonestsaid.courses import is_deed_word
from soonestsaid.dealings import Dealing
from soonestsaid.dealtext import dealing_text, deed_text, read_dealing, read_deed
from soonestsaid.desk import Desk
from soonestsaid.errors import BadStory, SayError
from soonestsaid.questions import Question, is_name
from soonestsaid.questiontext import question_text, read_question
from soonestsaid.signs import Scanner, read_number

# How many names stand behind the word of each deed that has nothing else.
NAMES = {"drop": 1, "need": 1, "dealt": 1, "carries": 2}
EAGER = "eager"
SPARING = "sparing"


def print_deeds(tables, deeds):
    """Returns the text of the deeds."""
    return "\n".join([deed_line(tables, deed) for deed in deeds])


def deed_line(tables, deed):
    """Returns the line of a deed."""
    if deed[0] == "ask":
        return f"ask {deed[1]} {question_text(tables, deed[2])}"
    if is_deed_word(deed[0]):
        return deed_text(deed)
    return " ".join([str(part) for part in deed])


def read_deeds(tables, text):
    """Returns the deeds of a text; raises BadStory."""
    lines = text.split("\n") if text else []
    return tuple([read_line(tables, line, number) for number, line in enumerate(lines)])


def read_line(tables, line, number):
    """Returns the deed of a line; raises BadStory with the line's number."""
    try:
        deed = deed_of(tables, line)
    except SayError:
        deed = None
    if deed is None:
        raise BadStory(number)
    return deed


def deed_of(tables, line):
    """Returns the deed of a line; returns None or raises an error for what is none."""
    word, _, rest = line.partition(" ")
    if word in NAMES:
        names = rest.split(" ")
        return (word, *names) if len(names) == NAMES[word] and all([is_name(name) for name in names]) else None
    if word not in ("ask", "told"):
        return read_deed(line)
    name, _, further = rest.partition(" ")
    if not is_name(name):
        return None
    if word == "told":
        return (word, name, read_house(further))
    widths, rules = read_question(further)
    return (word, name, Question(widths, rules).rules) if widths == tuple(tables) else None


def read_house(text):
    """Returns the number of a house; raises BadText."""
    scanner = Scanner(text)
    house = read_number(scanner)
    scanner.finish()
    return house


def put_away(desk):
    """Returns a text from which an equal desk can be taken up."""
    dealing = desk.dealing
    lines = [dealing_text(dealing.tables, dealing.houses, dealing.modulus, dealing.accepts, dealing.exceptions)]
    lines.append(SPARING if desk.sparing else EAGER)
    asks = [("ask", name, question.rules) for name, question in desk.questions]
    lines.extend([deed_line(dealing.tables, deed) for deed in (*asks, *desk.course)])
    return "\n".join(lines)


def taken_up(text):
    """Returns the desk that was put away; raises BadStory."""
    lines = text.split("\n")
    try:
        parts = read_dealing(lines[0])
        dealing = Dealing(*parts)
    except SayError:
        raise BadStory(0) from None
    if len(lines) < 2 or lines[1] not in (EAGER, SPARING):
        raise BadStory(1)
    desk = Desk(dealing, lines[1] == SPARING)
    for number, line in enumerate(lines[2:], start=2):
        take_line(desk, line, number)
    return desk


def take_line(desk, line, number):
    """Does the ask or the net deed of a line; raises BadStory with the line's number."""
    deed = read_line(desk.dealing.tables, line, number)
    if deed[0] == "ask":
        # Behind a net deed there are no more asks.
        right = desk.course == ()
    else:
        right = is_deed_word(deed[0])
    try:
        if right:
            desk.do_deed(deed)
    except SayError:
        right = False
    if not right:
        raise BadStory(number)
