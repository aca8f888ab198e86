"""Layings of a company's own hand that make it stand, or no longer stand, and all right boards of small webs."""

from tworooms.boards import Board
from tworooms.companies import check_stone, is_right
from tworooms.errors import TooMany
from tworooms.names import FREE, MOST_SETS, SIGNS, check_hand, check_number
from tworooms.rounds import standing, stands
from tworooms.takings import board_after

MOST_IN_SET = 3
MOST_PLACES_TO_LIST = 5


def least_making(board, place, *, most=2):
    """The first set of at most so many free places that makes the company stand, ascending, or None."""
    sets = sets_to_try(board, most)
    check_stone(board, place)
    return first_leading(board, place, sets, True)


def least_unmaking(board, place, *, most=2):
    """The first set of at most so many free places after which the company does not stand, ascending, or None."""
    sets = sets_to_try(board, most)
    check_stone(board, place)
    return first_leading(board, place, sets, False)


def is_unmaking_row(board, place, row):
    """Whether the company of the place does not stand after its hand laid on the places of the row."""
    check_stone(board, place)
    return leads_to(board, place, row, False)


def is_making_row(board, place, row):
    """Whether the company of the place stands after its hand laid on the places of the row."""
    check_stone(board, place)
    return leads_to(board, place, row, True)


def right_boards(web):
    """The signs of all right boards of the web, ascending."""
    if len(web) > MOST_PLACES_TO_LIST:
        raise TooMany("places", MOST_PLACES_TO_LIST)
    texts = [""]
    for _ in web:
        # The signs stand in ascending order, so the texts do, too.
        texts = [text + sign for text in texts for sign in SIGNS]
    return [text for text in texts if is_right(Board(web, text))]


def stand_tally(web, hand):
    """For 0, 1, .. companies, the number of right boards on which so many of the hand stand."""
    check_hand(hand)
    numbers = [len(standing(Board(web, signs), hand)) for signs in right_boards(web)]
    return [numbers.count(many) for many in range(max(numbers) + 1)]


def smallest_standing(web, hand):
    """The signs of the right board with the fewest stones on which a company of the hand stands, or None."""
    check_hand(hand)
    found = [signs for signs in right_boards(web) if len(standing(Board(web, signs), hand)) > 0]
    # Of several least ones the first is told, and the signs are ascending.
    return min(found, key=stones_in, default=None)


def sets_to_try(board, most):
    """The sets of at most so many free places, smaller ones first; refuses a bad bound and too many sets."""
    check_number("most", most, 0, MOST_IN_SET)
    free = board.bearing(FREE)
    sets = [places for size in range(most + 1) for places in sets_of(free, size)]
    if len(sets) > MOST_SETS:
        raise TooMany("sets", MOST_SETS)
    return sets


def sets_of(places, size):
    """The sets of so many of the ascending places, each ascending, in ascending order."""
    if size == 0:
        return [[]]
    return [[place] + rest for at, place in enumerate(places) for rest in sets_of(places[at + 1:], size - 1)]


def first_leading(board, place, sets, standing_then):
    """The first of the sets whose layings lead to a board on which the company does or does not stand, or None."""
    for places in sets:
        if leads_to(board, place, places, standing_then):
            return places
    return None


def leads_to(board, place, row, standing_then):
    """Whether the row is let for the company's hand, and the company then does or does not stand, as told."""
    after = board_after(board, board.hand_at(place), row)
    return after is not None and stands(after, place) == standing_then


def stones_in(signs):
    """The number of stones of both hands."""
    return len(signs) - signs.count(FREE)
