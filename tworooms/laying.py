"""Laying a stone on a right board: what is taken off, and what is refused."""

from tworooms.companies import check_place_for, check_right, company_of, free_neighbours, touched_by
from tworooms.errors import BadDeed, NoPlace, Occupied, SelfTaking
from tworooms.names import FREE, check_hand, other_hand, sign_of


def taken_by(board, hand, place):
    """The names of the companies that a laying on the place takes off, ascending."""
    check_place_for(board, hand, place)
    if board.sign(place) != FREE:
        raise Occupied(place)
    return last_free_of(board, other_hand(hand), place)


def lay(board, hand, place):
    """The board after the laying, and the places whose stones were taken off, ascending."""
    check_place_for(board, hand, place)
    fault, after, taken = try_laying(board, hand, place)
    if fault == "occupied":
        raise Occupied(place)
    if fault == "self-taking":
        raise SelfTaking(place)
    return after, taken


def lay_fault(board, hand, place):
    """The reason for which the laying is refused, or None if it is let."""
    check_place_for(board, hand, place)
    return fault_on_right(board, hand, place)


def let_places(board, hand):
    """The places on which a laying of the hand is let, ascending."""
    check_hand(hand)
    check_right(board)
    return [place for place in board.web if fault_on_right(board, hand, place) is None]


def lay_row(board, hand, row):
    """The board after the hand laid on the places of the row in order."""
    check_hand(hand)
    for place in row:
        if place not in board.web:
            raise NoPlace(place)
    check_right(board)
    now = board
    for at, place in enumerate(row):
        fault, now, _ = try_laying(now, hand, place)
        if fault is not None:
            raise BadDeed(at, fault)
    return now


def last_free_of(board, hand, place):
    """The names of the companies of the hand whose only free neighbour is the place."""
    return [name for name in touched_by(board, place, hand) if free_neighbours(board, name) == [place]]


def fault_on_right(board, hand, place):
    """The fault of a laying on a board that is known to be right."""
    fault, _, _ = try_laying(board, hand, place)
    return fault


def try_laying(board, hand, place):
    """The fault of a laying on a right board, the board after it, and the places whose stones it takes off.

    A refused laying leaves the board as it is.
    """
    if board.sign(place) != FREE:
        return "occupied", board, []
    after, taken = after_laying(board, hand, place)
    if len(free_neighbours(after, place)) == 0:
        return "self-taking", board, []
    return None, after, taken


def after_laying(board, hand, place):
    """The board after a stone was put on a free place of a right board, and the places taken off.

    The company of that stone may be left without a free neighbour.
    """
    taken = []
    for name in last_free_of(board, other_hand(hand), place):
        taken.extend(company_of(board, name))
    after = board.put(place, sign_of(hand))
    for gone in taken:
        after = after.put(gone, FREE)
    return after, sorted(taken)
