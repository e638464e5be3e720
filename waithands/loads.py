"""Loads, and the texts that write them."""

from waithands.errors import BadLoad
from waithands.words import FIGURES, MOST_UNITS, number_of

EMPTY = "-"
MOST_BEATS = 300
LEAST_TIMES = 2
MOST_TIMES = 99
MOST_BRACKETS = 3


def load_of(text):
    """The load that a text writes."""
    if text == EMPTY:
        return []
    load, end = read_pieces(text, 0, 0)
    if end < len(text):
        raise BadLoad(f"nothing can stand at sign {end}")
    return load


def read_pieces(text, at, brackets):
    """The pair of the beats of the pieces from that sign on, and of the sign behind them."""
    load, at = read_piece(text, at, brackets)
    while text[at:at + 1] == " ":
        piece, at = read_piece(text, at + 1, brackets)
        load = load + piece
        check_beats(len(load))
    return load, at


def read_piece(text, at, brackets):
    """The pair of a piece's beats, and of the sign behind it."""
    if text[at:at + 1] == "(":
        return read_bracket(text, at + 1, brackets + 1)
    units, at = read_number(text, at, 0, MOST_UNITS)
    if text[at:at + 1] != "x":
        return [units], at
    times, at = read_times(text, at)
    return repeated([units], times), at


def read_bracket(text, at, brackets):
    """The pair of the beats of a piece in brackets, and of the sign behind it."""
    if brackets > MOST_BRACKETS:
        raise BadLoad(f"more than {MOST_BRACKETS} brackets within one another")
    load, at = read_pieces(text, at, brackets)
    if text[at:at + 1] != ")":
        raise BadLoad(f"no bracket is closed at sign {at}")
    times, at = read_times(text, at + 1)
    return repeated(load, times), at


def read_times(text, at):
    """The pair of how many times, and of the sign behind it."""
    if text[at:at + 1] != "x":
        raise BadLoad(f"no x at sign {at}")
    return read_number(text, at + 1, LEAST_TIMES, MOST_TIMES)


def read_number(text, at, least, most):
    """The pair of the number that begins at that sign, and of the sign behind it."""
    end = at
    while end < len(text) and text[end] in FIGURES:
        end += 1
    number = number_of(text[at:end], least, most)
    if number is None:
        raise BadLoad(f"no number from {least} to {most} at sign {at}")
    return number, end


def repeated(load, times):
    """The load so many times over."""
    # Refused ahead of the doing: brackets can ask for very many beats.
    check_beats(len(load) * times)
    return load * times


def check_beats(many):
    """Refuses more beats than a load has."""
    if many > MOST_BEATS:
        raise BadLoad(f"more than {MOST_BEATS} beats")


def load_text(load):
    """The text of a load, each run of like neighbours as a piece, without brackets."""
    if not load:
        return EMPTY
    pieces = []
    at = 0
    while at < len(load):
        many = run_from(load, at)
        pieces.append(f"{load[at]}x{many}" if many > 1 else f"{load[at]}")
        at += many
    return " ".join(pieces)


def run_from(load, at):
    """How many like neighbours, from that place on, a piece can write."""
    many = 1
    while many < MOST_TIMES and at + many < len(load) and load[at + many] == load[at]:
        many += 1
    return many
