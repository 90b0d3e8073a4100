"""Heaps written as texts, and read."""

from plateheaps.errors import BadRow, BadText
from plateheaps.fractions import fraction
from plateheaps.heaps import is_lesser, summed
from plateheaps.places import place_of
from plateheaps.plates import is_plate

FIGURES = "0123456789"
MOST_FIGURES = 200


def fraction_text(s):
    return str(s[0]) if s[1] == 1 else f"{s[0]}/{s[1]}"


def place_text(p):
    return f"({fraction_text(fraction(p[0], p[2]))} {fraction_text(fraction(p[1], p[2]))})"


def row_text(plate, weight):
    places = " ".join([place_text(p) for p in plate])
    return f"{weight}[{places}]"


def heap_text(heap):
    """Return the text of a heap."""
    return " ".join([row_text(plate, weight) for plate, weight in heap.rows()])


def behind_sign(text, at, sign):
    """Return the number of the character behind the one at this place, which must be the sign."""
    if text[at:at + 1] != sign:
        raise BadText(at)
    return at + 1


def behind_figures(text, at):
    """Return the number of the character behind the figures that begin at this place."""
    end = at
    while end < len(text) and text[end] in FIGURES:
        end += 1
    if end == at:
        raise BadText(at)
    if text[at] == "0" and end > at + 1:
        raise BadText(at + 1)
    if end > at + MOST_FIGURES:
        raise BadText(at + MOST_FIGURES)
    return end


def behind_integer(text, at):
    if text[at:at + 1] == "-":
        return behind_figures(text, at + 1)
    return behind_figures(text, at)


def behind_fraction(text, at):
    end = behind_integer(text, at)
    if text[end:end + 1] == "/":
        return behind_figures(text, end + 1)
    return end


def behind_place(text, at):
    middle = behind_fraction(text, behind_sign(text, at, "("))
    return behind_sign(text, behind_fraction(text, behind_sign(text, middle, " ")), ")")


def behind_row(text, at):
    end = behind_place(text, behind_sign(text, behind_integer(text, at), "["))
    while text[end:end + 1] == " ":
        end = behind_place(text, end + 1)
    return behind_sign(text, end, "]")


def row_texts(text):
    """Return the list of the texts of the rows; BadText if the text has not the form of rows."""
    if text == "":
        return []
    end = behind_row(text, 0)
    found = [text[:end]]
    while end < len(text):
        start = behind_sign(text, end, " ")
        end = behind_row(text, start)
        found.append(text[start:end])
    return found


def read_fraction(word):
    """Return the fraction of a word that has the form of one, None if it is below the line 0."""
    above, slash, below = word.partition("/")
    if slash == "":
        return (int(above), 1)
    if int(below) == 0:
        return None
    return fraction(int(above), int(below))


def read_place(words):
    """Return the place of its two fractions, None if one of them is none."""
    first, blank, second = words.partition(" ")
    x, y = read_fraction(first), read_fraction(second)
    if x is None or y is None:
        return None
    return place_of(x, y)


def read_row(written):
    """Return the row of a text that has the form of one, None if it would not be written so."""
    opening = written.find("[")
    weight = int(written[:opening])
    plate = tuple([read_place(words) for words in written[opening + 2:-2].split(") (")])
    if not is_plate(plate) or row_text(plate, weight) != written:
        return None
    return (plate, weight)


def read_lone_row(text):
    """Return the row of a text, also with the weight 0, None if the text is none of a row."""
    try:
        end = behind_row(text, 0)
    except BadText:
        return None
    return read_row(text) if end == len(text) else None


def read_heap(text):
    """Return the heap of a text."""
    if not isinstance(text, str):
        raise BadText(0)
    rows = []
    for number, written in enumerate(row_texts(text)):
        row = read_row(written)
        if row is None or row[1] == 0 or (number > 0 and not is_lesser(rows[-1][0], row[0])):
            raise BadRow(number)
        rows.append(row)
    return summed(rows)
