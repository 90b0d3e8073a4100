"""States, which are dicts from names to heaps that have rows, and deeds, which make states of states."""

from plateheaps.errors import BadDeed, BadName, BadText, TooMany
from plateheaps.halfplanes import is_half
from plateheaps.heaps import Heap, led_heap, summed
from plateheaps.heaptexts import read_lone_row, row_text
from plateheaps.insides import inside_out
from plateheaps.kinds import is_number
from plateheaps.laying import is_map
from plateheaps.overlays import cut, over
from plateheaps.plates import is_plate
from plateheaps.products import put_together
from plateheaps.words import is_name, read_integer

MOST_SHEETS = 8
MOST_ROWS = 60

# Behind their word deeds have parts of these kinds.
PARTS = {
    "lay": ("name", "plate", "number"), "add": ("name", "name", "number"), "put": ("name", "name"),
    "over": ("name", "name"), "cut": ("name", "half"), "lead": ("name", "map"), "turn": ("name",), "drop": ("name",),
}


def is_part(kind, value):
    """Tell whether a value may be a part of this kind; names are looked at later."""
    if kind == "plate":
        return is_plate(value)
    if kind == "number":
        return is_number(value)
    if kind == "half":
        return is_half(value)
    return kind == "name" or is_map(value)


def is_formed(value):
    """Tell whether a value is a tuple of one of the words and parts as told, its names any values."""
    if not isinstance(value, tuple) or len(value) == 0 or not isinstance(value[0], str) or value[0] not in PARTS:
        return False
    kinds = PARTS[value[0]]
    return len(value) == len(kinds) + 1 and all([is_part(kind, part) for kind, part in zip(kinds, value[1:])])


def names_of(deed):
    """Return the list of the parts of a formed deed that are to be names."""
    return [part for kind, part in zip(PARTS[deed[0]], deed[1:]) if kind == "name"]


def check_deed(value):
    """Raise BadDeed or BadName of what is no deed."""
    if not is_formed(value):
        raise BadDeed()
    for name in names_of(value):
        if not is_name(name):
            raise BadName(name)


def sheet(state, name):
    """Return the sheet of a name, the heap without rows if the state tells none."""
    return state[name] if name in state else Heap([])


def state_of(sheets):
    """Return the state of a dict from names to heaps: those that have rows, ascending."""
    return {name: sheets[name] for name in sorted(list(sheets)) if len(sheets[name]) > 0}


def changed_sheet(state, deed):
    """Return what the deed makes of its sheet."""
    word, name = deed[0], deed[1]
    here = sheet(state, name)
    if word == "lay":
        return here + summed([(deed[2], deed[3])])
    if word == "add":
        return here + deed[3] * sheet(state, deed[2])
    if word == "put":
        return put_together(here, sheet(state, deed[2]))
    if word == "over":
        return over(here, sheet(state, deed[2]))
    if word == "cut":
        return cut(here, deed[2])
    if word == "lead":
        return led_heap(here, deed[2])
    return inside_out(here) if word == "turn" else Heap([])


def check_caps(state):
    """Raise TooMany if too many sheets have rows, or if one has too many rows."""
    if len(state) > MOST_SHEETS or not all([len(state[name]) <= MOST_ROWS for name in state]):
        raise TooMany()


def behind(state, deed):
    """Return the state that a deed makes of a state."""
    check_deed(deed)
    sheets = {name: state[name] for name in state}
    sheets[deed[1]] = changed_sheet(state, deed)
    made = state_of(sheets)
    check_caps(made)
    return made


def change(one, other):
    """Return the state of what the sheets of other have more than those of one."""
    names = list(one) + list(other)
    return state_of({name: sheet(other, name) - sheet(one, name) for name in names})


def grown(state, more):
    """Return the state of the sheets of both added."""
    names = list(state) + list(more)
    return state_of({name: sheet(state, name) + sheet(more, name) for name in names})


def turned_back(more):
    """Return a change with all weights turned."""
    return {name: -1 * more[name] for name in more}


def deed_text(deed):
    """Return the text of a deed."""
    word, name = deed[0], deed[1]
    if word == "lay":
        return f"{word} {name} {row_text(deed[2], deed[3])}"
    parts = list(deed[2]) if word in ("cut", "lead") else list(deed[2:])
    return " ".join([word, name] + [str(part) for part in parts])


def read_parts(word, text):
    """Return the list of the parts of a deed behind its name, as a text of such a deed tells them."""
    if word == "lay":
        row = read_lone_row(text)
        return [] if row is None else [row[0], row[1]]
    words = text.split(" ") if text != "" else []
    if word in ("put", "over"):
        return words
    if word == "add":
        return words[:1] + [read_integer(part) for part in words[1:]]
    numbers = [read_integer(part) for part in words]
    return [tuple(numbers)] if word in ("cut", "lead") else numbers


def read_deed(text):
    """Return the deed of a text."""
    if not isinstance(text, str):
        raise BadText(0)
    word, _, rest = text.partition(" ")
    name, _, last = rest.partition(" ")
    deed = (word, name) + tuple(read_parts(word, last))
    if not is_formed(deed) or not all([is_name(part) for part in names_of(deed)]):
        raise BadText(0)
    # A deed's text is written in one way alone.
    if deed_text(deed) != text:
        raise BadText(0)
    return deed
