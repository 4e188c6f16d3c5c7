"""The desk: it keeps a level, and rows of its room by names, and is told rows of text."""

from fractionroads.closed import border, crossing, mirrored
from fractionroads.deeds import deed
from fractionroads.ends import end, ends
from fractionroads.errors import NoName, NoText
from fractionroads.forms import told_by_forms
from fractionroads.levels import Level, symbols_counted
from fractionroads.rooms import Room, added
from fractionroads.splits import closed_table, half_wide, new_counted, trace
from fractionroads.surface import genus
from fractionroads.texts import read_number, read_place, read_walk
from fractionroads.turns import turned

SMALL_LETTERS = "abcdefghijklmnopqrstuvwxyz"
MOST_LETTERS = 8
MOST_FIGURES = 9
# What is due behind each first word: a name to be made, a name that has to stand for a row, a number, a place, a walk.
DUE = {
    "level": ("number",), "walk": ("name", "walk"), "add": ("name", "known", "known"),
    "times": ("name", "number", "known"), "deed": ("name", "number", "known"), "turn": ("name", "number", "known"),
    "mirror": ("name", "known"), "drop": ("known",), "genus": (), "symbols": (), "ends": (), "end": ("place",),
    "same": ("known", "known"), "border": ("known",), "cross": ("known", "known"), "trace": ("number",),
    "forms": ("number",), "half": ("number",), "new": (),
}


def say_level(desk, said):
    """Lays the desk anew, at a level."""
    desk.room = Room(Level(said[0]))
    desk.named = {}
    return "ok"


def keep(desk, name, row):
    """Lets a name stand for a row."""
    desk.named[name] = row
    return "ok"


def say_walk(desk, said):
    """Names the row of the road from a walk's first place to its last one."""
    name, walk = said
    return keep(desk, name, desk.room.road_row(walk[0], walk[-1]))


def say_add(desk, said):
    """Names the sum of two rows."""
    name, one, other = said
    return keep(desk, name, added(desk.named[one], 1, desk.named[other]))


def say_times(desk, said):
    """Names a row taken so many times."""
    name, many, old = said
    return keep(desk, name, [many * number for number in desk.named[old]])


def say_deed(desk, said):
    """Names the deed of a row."""
    name, m, old = said
    return keep(desk, name, deed(desk.room, m, desk.named[old]))


def say_turn(desk, said):
    """Names a row turned."""
    name, q, old = said
    return keep(desk, name, turned(desk.room, q, desk.named[old]))


def say_mirror(desk, said):
    """Names a row mirrored."""
    name, old = said
    return keep(desk, name, mirrored(desk.room, desk.named[old]))


def say_drop(desk, said):
    """Lets a name stand for nothing."""
    del desk.named[said[0]]
    return "ok"


def say_genus(desk, said):
    """The genus of the level."""
    return str(genus(desk.room.level()))


def say_symbols(desk, said):
    """How many symbols the level has."""
    return str(symbols_counted(desk.room.level().number()))


def show_end(told):
    """An end as a text."""
    return f"{told[0]},{told[1]}"


def say_ends(desk, said):
    """All ends of the level."""
    return " ".join([show_end(each) for each in ends(desk.room.level())])


def say_end(desk, said):
    """The end that a place is at."""
    return show_end(end(desk.room.level(), said[0]))


def show_numbers(numbers):
    """Whole numbers as a text, blanks between."""
    return " ".join([str(number) for number in numbers])


def say_same(desk, said):
    """Whether two rows are the same."""
    one, other = said
    return "yes" if desk.named[one] == desk.named[other] else "no"


def say_border(desk, said):
    """The border of a row."""
    return show_numbers(border(desk.room, desk.named[said[0]]))


def say_cross(desk, said):
    """How often two rows cross."""
    one, other = said
    return str(crossing(desk.room, desk.named[one], desk.named[other]))


def say_trace(desk, said):
    """The trace of a deed's closed table."""
    return str(trace(closed_table(desk.room, said[0])))


def say_forms(desk, said):
    """What the forms tell of a deed."""
    return str(told_by_forms(desk.room.level(), said[0]))


def say_half(desk, said):
    """The numbers of a deed's half."""
    return show_numbers(half_wide(desk.room, said[0]))


def say_new(desk, said):
    """How many new rows there are."""
    return str(new_counted(desk.room.level().number()))


ANSWERS = {
    "level": say_level, "walk": say_walk, "add": say_add, "times": say_times, "deed": say_deed, "turn": say_turn,
    "mirror": say_mirror, "drop": say_drop, "genus": say_genus, "symbols": say_symbols, "ends": say_ends,
    "end": say_end, "same": say_same, "border": say_border, "cross": say_cross, "trace": say_trace,
    "forms": say_forms, "half": say_half, "new": say_new,
}


def read_name(word):
    """The name that a word is."""
    if word == "" or len(word) > MOST_LETTERS or not all(sign in SMALL_LETTERS for sign in word):
        raise NoText("a name is one to eight small letters")
    return word


def read_due(kind, word):
    """What a word says where a thing of this kind is due."""
    if kind == "number":
        return read_number(word, MOST_FIGURES)
    if kind == "place":
        return read_place(word)
    if kind == "walk":
        return read_walk(word)
    return read_name(word)


def read_row(row):
    """The first word of a row of text, and what the others say."""
    if not isinstance(row, str):
        raise NoText("the desk is told rows of text")
    words = row.split(" ")
    first = words[0]
    if first not in DUE:
        raise NoText("the desk knows no such word")
    # A walk is all the words that are left, with the blanks between.
    parts = row.split(" ", 2)[1:] if first == "walk" else words[1:]
    if len(parts) != len(DUE[first]):
        raise NoText("too few words, or too many")
    return (first, [read_due(kind, part) for kind, part in zip(DUE[first], parts)])


class Desk:
    """A desk: a room, and rows of it by names."""

    def __init__(self):
        self.room = Room(Level(1))
        self.named = {}

    def say(self, row):
        """The answer to a row of text."""
        first, said = read_row(row)
        for kind, word in zip(DUE[first], said):
            if kind == "known" and word not in self.named:
                raise NoName("the name stands for nothing")
        answer = ANSWERS[first]
        return answer(self, said)
