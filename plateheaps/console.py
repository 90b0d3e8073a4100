"""A console: lines that say what to do with a house, or ask of it, and their answers."""

from plateheaps.deeds import PARTS, read_deed, sheet
from plateheaps.errors import BadText, HeapError, Missing
from plateheaps.heaps import look
from plateheaps.heaptexts import heap_text
from plateheaps.house import House, blame
from plateheaps.places import place_of
from plateheaps.unlikes import are_alike
from plateheaps.words import is_name, read_figures, read_fraction_word

MOST_NUMBER_FIGURES = 30

# Behind their first word lines have words of these kinds; show stands alone, too.
FORMS = {
    "undo": (), "redo": (), "go": ("name",), "merge": ("name",), "pick": ("number",), "revert": ("number",),
    "branch": ("name",), "show": ("name",), "sum": ("name",), "look": ("name", "fraction", "fraction"),
    "alike": ("name", "name"), "at": ("number",), "blame": ("name", "fraction", "fraction"),
}


def read_word(kind, word):
    """Return what a word of this kind tells, None of another word."""
    if kind == "number":
        return read_figures(word, MOST_NUMBER_FIGURES)
    if kind == "fraction":
        return read_fraction_word(word)
    return word if is_name(word) else None


def read_order(line):
    """Return the tuple of what the words of a line tell, its first word ahead; None if it is no line."""
    words = line.split(" ")
    if words == ["show"]:
        return ("show",)
    kinds = FORMS.get(words[0])
    if kinds is None or len(words) != len(kinds) + 1:
        return None
    parts = [read_word(kind, word) for kind, word in zip(kinds, words[1:])]
    if None in parts:
        return None
    # Lines with two fractions tell a place.
    if len(parts) == 3:
        parts = [parts[0], place_of(parts[1], parts[2])]
    return (words[0],) + tuple(parts)


def read_line(line):
    """Return what a line says, an order or a deed, None if it is no line."""
    if not isinstance(line, str):
        return None
    if line.partition(" ")[0] not in PARTS:
        return read_order(line)
    try:
        return read_deed(line)
    except BadText:
        return None


def do_order(house, order):
    """Do an order or a deed that changes where the house stands, or its moments; tell whether it was one."""
    word = order[0]
    if word in PARTS:
        house.do(order)
    elif word == "undo":
        house.undo()
    elif word == "redo":
        house.redo()
    elif word == "go":
        house.go(order[1])
    elif word == "merge":
        house.merge(order[1])
    elif word == "pick":
        house.pick(order[1])
    elif word == "revert":
        house.revert(order[1])
    elif word == "branch":
        house.branch(order[1])
    else:
        return False
    return True


def told(house, order):
    """Return the answer to an order that asks of the house."""
    word = order[0]
    if word == "at":
        return " ".join(list(house.state_at(order[1])))
    state = house.state()
    if order == ("show",):
        return " ".join(list(state))
    heap = sheet(state, order[1])
    if word == "show":
        return heap_text(heap)
    if word == "sum":
        return str(heap.total())
    if word == "alike":
        return "yes" if are_alike(heap, sheet(state, order[2])) else "no"
    if word == "look":
        return str(look(heap, order[2]))
    return " ".join([f"{number}:{d}" for number, d in blame(house, order[1], order[2])])


class Console:
    """A house, and what lines say of it."""

    def __init__(self):
        self._house = House()

    def house(self):
        """Return the house, always the same one."""
        return self._house

    def say(self, line):
        """Do what a line says, and return the answer."""
        order = read_line(line)
        if order is None:
            return "what"
        try:
            if do_order(self._house, order):
                return str(self._house.present())
            return told(self._house, order)
        except (HeapError, Missing):
            return "refused"
