"""What the rows of a book and the commands of a script share: each step looks at a word and refuses it.

A book is asked here only for what it has; nothing changes it.
"""

from tworooms.companies import is_right
from tworooms.errors import BadRow
from tworooms.names import FREE, HANDS, PASS, SIGNS, is_name
from tworooms.records import is_let
from tworooms.takings import is_decision
from tworooms.webs import bad_place_at, bad_tie_at, tie_in

ROW_KINDS = ("web", "board", "game", "play", "paper")
BEFORE_TIES = "/"
FORM = "form"
USED = "used"
MISSING = "missing"
WRONG = "wrong"


def word_at(words, number):
    """The word of this number; refuses a missing one."""
    if number > len(words):
        raise BadRow(number, FORM)
    return words[number - 1]


def end_row(words, most):
    """Refuses a word behind the last one that the row may have."""
    if len(words) > most:
        raise BadRow(most + 1, FORM)


def name_at(words, number):
    """The word of this number, which must have the form of a place name."""
    word = word_at(words, number)
    if not is_name(word):
        raise BadRow(number, FORM)
    return word


def new_name_at(book, words, number):
    """The word of this number, which must be a name that no entry of the book has."""
    name = name_at(words, number)
    if name in book:
        raise BadRow(number, USED)
    return name


def entry_at(book, words, number, kind):
    """The word of this number, which must be the name of an entry of the kind."""
    name = name_at(words, number)
    if name not in book or book.entry_kind(name) != kind:
        raise BadRow(number, MISSING)
    return name


def right_board_at(book, words, number):
    """The board of the entry that the word of this number names; it must be right."""
    board = book.board_at(entry_at(book, words, number, "board"))
    if not is_right(board):
        raise BadRow(number, WRONG)
    return board


def hand_at_word(words, number):
    """The word of this number, which must be a hand."""
    hand = word_at(words, number)
    if hand not in HANDS:
        raise BadRow(number, FORM)
    return hand


def stone_at(board, words, number):
    """The word of this number, which must be a place of the board with a stone."""
    place = name_at(words, number)
    if place not in board.web or board.sign(place) == FREE:
        raise BadRow(number, WRONG)
    return place


def deed_at(game, words, number):
    """The word of this number, which must be a deed that is let in the game."""
    deed = word_at(words, number)
    if deed != PASS and not is_name(deed):
        raise BadRow(number, FORM)
    if not is_let(game, deed):
        raise BadRow(number, WRONG)
    return deed


def signs_at(web, words, number):
    """The word of this number, which must be one sign for each place of the web."""
    signs = word_at(words, number)
    if signs == "" or not all([sign in SIGNS for sign in signs]):
        raise BadRow(number, FORM)
    if len(signs) != len(web):
        raise BadRow(number, WRONG)
    return signs


def places_at(words, number):
    """The places from the word of this number up to the word in front of the ties."""
    places = words[number - 1:]
    if BEFORE_TIES in places:
        places = places[:places.index(BEFORE_TIES)]
    at = bad_place_at(places)
    if at is not None:
        raise BadRow(number + at, FORM)
    behind = number + len(places)
    # Without a place the next word is refused, also the word in front of the ties.
    if len(places) == 0 or behind > len(words):
        raise BadRow(behind, FORM)
    return places


def ties_at(words, number, places):
    """The ties from the word of this number to the end."""
    ties = words[number - 1:]
    at = bad_tie_at(ties, places)
    if at is not None:
        raise BadRow(number + at, FORM)
    return [tie_in(word, places) for word in ties]


def paper_at_word(board, place, words, number):
    """The word of this number and the paper behind it, which must be a right decision for the place."""
    word = word_at(words, number)
    if word not in ("stands", "falls"):
        raise BadRow(number, FORM)
    paper = []
    # A later word of a wrong form is told ahead of a wrong paper.
    for at in range(number + 1, len(words) + 1):
        paper.append(paper_row_at(words, at) if word == "stands" else name_at(words, at))
    if not is_decision(board, place, word, paper):
        raise BadRow(number, WRONG)
    return word, paper


def paper_row_at(words, number):
    """The row of a stand paper that the word of this number writes."""
    names = word_at(words, number).split(":")
    if len(names) != 3 or not all([is_name(name) for name in names]):
        raise BadRow(number, FORM)
    return tuple(names)
