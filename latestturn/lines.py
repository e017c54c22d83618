"""Texts: figures, rows and queues, told and read again."""

from latestturn.errors import NoLine
from latestturn.hours import FIGURES, is_name

MOST_FIGURES = 6
NOTHING = "-"


def number_in(word):
    if not 1 <= len(word) <= MOST_FIGURES or not all([sign in FIGURES for sign in word]):
        raise NoLine("a number is written with 1 to 6 figures")
    if word[0] == "0" and word != "0":
        raise NoLine("figures do not begin with 0, but for 0 itself")
    return int(word)


def name_in(word):
    if not is_name(word):
        raise NoLine("a name is written with 1 to 8 small letters and figures, a letter first")
    return word


def parted(pieces, sign):
    # Where there is nothing to be told, that is told too: no text is empty.
    return sign.join(pieces) if pieces else NOTHING


def row_text(turn, names):
    return "".join([f"{turn}:"] + [f" {name}" for name in names])


def rows_text(rows):
    return parted([row_text(turn, names) for turn, names in rows], "; ")


def queue_text(queue):
    return parted([f"{name} {left}" for name, left in queue], ", ")


def row_in(text):
    parts = text.partition(":")
    words = parts[2].split(" ")
    # A blank stands ahead of each name, so the first word of what follows the colon has no signs.
    if parts[1] == "" or words[0] != "":
        raise NoLine("a row is written as a turn, a colon, and a blank ahead of each name")
    return (number_in(parts[0]), [name_in(word) for word in words[1:]])


def rows_in(text):
    if text == NOTHING:
        return []
    return [row_in(piece) for piece in text.split("; ")]


def ticket_in(text):
    parts = text.partition(" ")
    return (name_in(parts[0]), number_in(parts[2]))


def queue_in(text):
    if text == NOTHING:
        return []
    return [ticket_in(piece) for piece in text.split(", ")]
