"""Texts: a hill written in rows of words and plain figures."""

from honeyturns.errors import BadText
from honeyturns.hills import is_hill

FIGURES = "0123456789"
MOST_FIGURES = 41


def is_figures(word):
    """Tell whether the word is plain figures, no nought ahead but 0 itself."""
    if not 0 < len(word) <= MOST_FIGURES or not all([sign in FIGURES for sign in word]):
        return False
    return word == "0" or word[0] != "0"


def numbers_in(row, word, leasts):
    """The list of the numbers behind the word, which are these at least; None of a row that isn't so written."""
    first, *words = row.split(" ")
    if first != word or len(words) != len(leasts) or not all([is_figures(part) for part in words]):
        return None
    numbers = [int(part) for part in words]
    if any([number < least for number, least in zip(numbers, leasts)]):
        return None
    return numbers


def day_in(row):
    """The DAY that the row tells; None where it tells none."""
    for word, is_open in (("open", True), ("shut", False)):
        numbers = numbers_in(row, word, (0,))
        if numbers is not None:
            return numbers[0], is_open
    return None


def hill_of_rows(rows):
    """The pair of a hill, as the first rows tell it, and how many rows these are.

    The hill lacks what they don't tell, and is None where the first row tells no pot.
    """
    pot = numbers_in(rows[0], "pot", (0,))
    if pot is None:
        return None, 0
    year, needs = [], []
    place = 1
    while place < len(rows) and (day := day_in(rows[place])) is not None:
        year.append(day)
        place += 1
    while place < len(rows) and (need := numbers_in(rows[place], "ant", (1,))) is not None:
        needs.append(need[0])
        place += 1
    return (tuple(year), tuple(needs), pot[0]), place


def hill_text(hill):
    """The text of the hill."""
    rows = [f"pot {hill[2]}"]
    for drops, is_open in hill[0]:
        word = "open" if is_open else "shut"
        rows.append(f"{word} {drops}")
    return "\n".join(rows + [f"ant {need}" for need in hill[1]])


def hill_in(text):
    """The HILL whose text it is; BadText(row) of others."""
    rows = text.split("\n")
    hill, many = hill_of_rows(rows)
    # The row that ends the hill's is the first bad one; what lacks shows behind the last row.
    if many < len(rows) or not is_hill(hill):
        raise BadText(many)
    return hill
