"""Whole numbers, places and walks, written and read."""

from fractionroads.errors import NoText
from fractionroads.places import is_place

FIGURES = "0123456789"
MOST_FIGURES = 30
LEAST_PLACES = 2
MOST_PLACES = 12


def is_number_text(text, most):
    """True or False: whether a text writes a whole number, of at most so many figures."""
    figures = text.removeprefix("-")
    if figures == "" or len(figures) > most or not all(sign in FIGURES for sign in figures):
        return False
    return text == "0" or figures[0] != "0"


def read_number(text, most):
    """The whole number that a text writes, of at most so many figures."""
    if not is_number_text(text, most):
        raise NoText("no whole number is written so")
    return int(text)


def show_place(place):
    """A place as a text."""
    return f"{place[0]}/{place[1]}"


def show_walk(walk):
    """A walk as a text."""
    return " ".join([show_place(place) for place in walk])


def read_place(text):
    """The place that a text writes; any other thing is refused."""
    if not isinstance(text, str):
        raise NoText("a place is read of a text")
    parts = text.split("/")
    if len(parts) != 2:
        raise NoText("a place is its top, a / and its bottom")
    told = (read_number(parts[0], MOST_FIGURES), read_number(parts[1], MOST_FIGURES))
    if not is_place(told):
        raise NoText("a place is written by its numbers in lowest terms")
    return told


def read_walk(text):
    """The walk that a text writes; any other thing is refused."""
    if not isinstance(text, str):
        raise NoText("a walk is read of a text")
    words = text.split(" ")
    if len(words) < LEAST_PLACES or len(words) > MOST_PLACES:
        raise NoText("a walk has two places to twelve, with a blank between")
    return [read_place(word) for word in words]
