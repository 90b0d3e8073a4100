"""Words of texts: names, and numbers in decimal figures."""

from plateheaps.fractions import fraction
from plateheaps.heaptexts import FIGURES, MOST_FIGURES, fraction_text

LETTERS = "abcdefghijklmnopqrstuvwxyz"
MOST_LETTERS = 8


def is_name(value):
    """Tell whether a value is a word of 1 to 8 letters from a to z."""
    if not isinstance(value, str) or not 1 <= len(value) <= MOST_LETTERS:
        return False
    return all([letter in LETTERS for letter in value])


def read_figures(word, most):
    """Return the number of a word of at most so many figures, without a 0 ahead, None of another word."""
    if not 1 <= len(word) <= most or not all([sign in FIGURES for sign in word]):
        return None
    return int(word) if word == "0" or word[0] != "0" else None


def read_integer(word):
    """Return the integer of a word as it is written, None of another word."""
    if word[:1] != "-":
        return read_figures(word, MOST_FIGURES)
    number = read_figures(word[1:], MOST_FIGURES)
    return -number if number is not None and number > 0 else None


def read_fraction_word(word):
    """Return the fraction of a word as it is written, None of another word."""
    above, slash, below = word.partition("/")
    p = read_integer(above)
    q = read_figures(below, MOST_FIGURES) if slash == "/" else 1
    if p is None or q is None or q == 0 or fraction_text(fraction(p, q)) != word:
        return None
    return fraction(p, q)
