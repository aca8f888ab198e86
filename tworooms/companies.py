"""Companies: joined stones of one hand, what touches them, and right boards."""

from tworooms.errors import NoPlace, NoStone, NotRight
from tworooms.names import DARK, FREE, LIGHT, check_hand, sign_of


def company_of(board, place):
    """The places of the company of the place, ascending."""
    sign = board.sign(place)
    if sign == FREE:
        raise NoStone(place)
    return board.web.part(place, board.bearing(sign))


def name_of(board, place):
    """The name of the company of the place."""
    return company_of(board, place)[0]


def company_names(board, hand):
    """The names of the companies of the hand, ascending."""
    stones = board.bearing(sign_of(hand))
    return [part[0] for part in board.web.parts(stones)]


def free_neighbours(board, place):
    """The free places that touch the company of the place, ascending."""
    border = board.web.border(company_of(board, place))
    return [beside for beside in border if board.sign(beside) == FREE]


def touched_by(board, place, hand):
    """The names of the companies of the hand that the place touches, ascending."""
    sign = sign_of(hand)
    if board.sign(place) == sign:
        return []
    stones = [beside for beside in board.web.near(place) if board.sign(beside) == sign]
    return sorted({name_of(board, stone) for stone in stones})


def closed_companies(board):
    """The names of the companies of both hands without a free neighbour, ascending."""
    names = company_names(board, DARK) + company_names(board, LIGHT)
    return sorted([name for name in names if len(free_neighbours(board, name)) == 0])


def is_right(board):
    """Whether each company of either hand has a free neighbour."""
    return len(closed_companies(board)) == 0


def check_right(board):
    """Refuses a board that is not right."""
    closed = closed_companies(board)
    if closed:
        raise NotRight(closed[0])


def check_place_for(board, hand, place):
    """Refuses what is no hand, no place of the web or no right board."""
    check_hand(hand)
    if place not in board.web:
        raise NoPlace(place)
    check_right(board)


def check_stone(board, place):
    """Refuses what is no place of the web, no right board or a place without a stone."""
    if place not in board.web:
        raise NoPlace(place)
    check_right(board)
    if board.sign(place) == FREE:
        raise NoStone(place)
