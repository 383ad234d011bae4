"""Companies and scripts as texts."""

from twobesides.checks import check_company, check_named, check_script
from twobesides.forms import MOST_DEPTH, MOST_PEOPLE
from twobesides.readers import reader_of
from twobesides.ties import pairs_of

TIE_SIGNS = {"know": "k", "part": "s", "turn": "u"}
TIE_WORDS = {"k": "know", "s": "part", "u": "turn"}


def company_text(named, company):
    """Return the text of a company."""
    check_company(named, company)
    return f"{company[0]}:" + "".join([f"{one}{other}" for one, other in company[1]])


def script_text(named, script):
    """Return the text of a script."""
    check_script(named, script)
    return items_text(script)


def items_text(items):
    """Return the text of deeds and choices."""
    return "".join([item_text(item) for item in items])


def item_text(item):
    """Return the text of a deed, or of a choice."""
    if item[0] == "pairs":
        return f"p{item[1]}" + figures(item[2])
    both = f"{item[1]}{item[2]}"
    if item[0] == "takes":
        return "g" + both + figures(item[3])
    if item[0] == "tie":
        return TIE_SIGNS[item[3]] + both
    return "?" + both + "[" + items_text(item[3]) + "/" + items_text(item[4]) + "]"


def figures(numbers):
    """Return the figures of numbers, with nothing between."""
    return "".join([str(number) for number in numbers])


def read_company(named, text):
    """Return the company whose text a string is."""
    check_named(named)
    reader = reader_of(text)
    people = reader.take_figure(list(range(named, MOST_PEOPLE + 1)))
    reader.take(":")
    ties = []
    left = pairs_of(people)
    while not reader.ended():
        one = reader.take_figure([pair[0] for pair in left])
        other = reader.take_figure([pair[1] for pair in left if pair[0] == one])
        ties.append((one, other))
        left = [pair for pair in left if pair > (one, other)]
    return people, tuple(ties)


def read_script(named, text):
    """Return the script whose text a string is."""
    check_named(named)
    reader = reader_of(text)
    items = []
    while not reader.ended():
        items.append(take_item(reader, named, MOST_DEPTH, reader.take(beginnings(reader, named, MOST_DEPTH))))
    return tuple(items)


def beginnings(reader, named, depth):
    """Return the signs by which a deed, or a choice down to a depth, can begin."""
    if reader.left == 0:
        return ""
    if named == 1:
        return "p"
    return "pgksu?" if depth > 0 else "pgksu"


def take_item(reader, named, depth, sign):
    """Return the deed, or the choice down to a depth, whose first sign has been taken."""
    reader.left = reader.left - 1
    one = reader.take_figure(list(range(named)))
    if sign == "p":
        return "pairs", one, reader.take_answers(6)
    other = reader.take_figure([person for person in range(named) if person != one])
    if sign == "g":
        return "takes", one, other, reader.take_answers(4)
    if sign in TIE_WORDS:
        return "tie", one, other, TIE_WORDS[sign]
    reader.take("[")
    first = take_items(reader, named, depth - 1, "/")
    return "ask", one, other, first, take_items(reader, named, depth - 1, "]")


def take_items(reader, named, depth, end):
    """Return the script of a choice, down to a depth, up to the sign that ends it."""
    items = []
    sign = reader.take(beginnings(reader, named, depth) + end)
    while sign != end:
        items.append(take_item(reader, named, depth, sign))
        sign = reader.take(beginnings(reader, named, depth) + end)
    return tuple(items)
