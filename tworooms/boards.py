"""Boards: a web and a sign for each of its places, and their text form."""

from tworooms.errors import BadSigns, BadText, NoPlace
from tworooms.forms import end_line, end_text, word_behind
from tworooms.names import FREE, SIGNS, hand_of, split_words
from tworooms.webs import web_in, write_web

MIRRORED = {".": ".", "d": "l", "l": "d"}


class Board:
    """A web with one sign for each place; it never changes."""

    def __init__(self, web, signs):
        check_signs(signs, len(web))
        self._web = web
        self._signs = signs
        self._sign_at = {place: sign for place, sign in zip(web, signs)}

    @property
    def web(self):
        """The web of the board."""
        return self._web

    @property
    def signs(self):
        """The signs, in ascending order of the places."""
        return self._signs

    def sign(self, place):
        """The sign of the place."""
        if place not in self._sign_at:
            raise NoPlace(place)
        return self._sign_at[place]

    def hand_at(self, place):
        """The hand of the stone on the place, or None."""
        return hand_of(self.sign(place))

    def bearing(self, sign):
        """The places with this sign, ascending."""
        return [place for place in self._web if self._sign_at[place] == sign]

    def put(self, place, sign):
        """A new board with this sign on this place."""
        if place not in self._sign_at:
            raise NoPlace(place)
        if sign not in SIGNS:
            raise BadSigns(0)
        signs = [sign if name == place else self._sign_at[name] for name in self._web]
        return Board(self._web, "".join(signs))

    def __eq__(self, other):
        return isinstance(other, Board) and self._web == other._web and self._signs == other._signs

    def __neg__(self):
        return Board(self._web, "".join([MIRRORED[sign] for sign in self._signs]))


def check_signs(signs, many):
    """Refuses signs that are not exactly one for each of so many places."""
    for at, sign in enumerate(signs):
        if at >= many or sign not in SIGNS:
            raise BadSigns(at)
    if len(signs) < many:
        raise BadSigns(len(signs))


def empty_board(web):
    """The board without stones."""
    return Board(web, FREE * len(web))


def write_board(board):
    """The text form of a board."""
    return f"{write_web(board.web)}\nboard {board.signs}"


def read_board(text):
    """The board that the text writes."""
    lines = split_words(text)
    board = board_in(lines)
    end_line(lines, 3, 2)
    end_text(lines, 3)
    return board


def board_in(lines):
    """The board that the first three lines write; nothing behind its signs is looked at."""
    web = web_in(lines)
    signs = word_behind(lines, 3, "board")
    try:
        return Board(web, signs)
    except BadSigns:
        raise BadText(3, 2) from None
