"""The player and the sure player, and play-outs of games by one of them."""

from tworooms.companies import free_neighbours, touched_by
from tworooms.counts import sure_places, sure_score
from tworooms.errors import GameOver, NoEntry
from tworooms.laying import after_laying, last_free_of
from tworooms.names import DARK, LIGHT, MOST_DEEDS, PASS, check_number, other_hand
from tworooms.rounds import standing

STYLES = ("plain", "sure")
ROOMY = 2


def candidates(game):
    """The places where the hand to move can lay and that are sure for neither hand, ascending."""
    if game.over:
        return []
    sure = sure_places(game.board, DARK) + sure_places(game.board, LIGHT)
    return [place for place in game.board.web if place not in sure and game.fault(place) is None]


def choose(game):
    """The deed that the player chooses."""
    check_going_on(game)
    board = game.board
    hand = game.turn
    places = candidates(game)
    taking = most_taking(board, hand, places)
    if taking is not None:
        return taking
    roomy = [place for place in places if open_count(board, hand, place) >= ROOMY]
    saving = [place for place in roomy if len(last_free_of(board, hand, place)) > 0]
    if len(saving) > 0:
        return saving[0]
    pressing = most_pressing(board, other_hand(hand), roomy)
    if pressing is not None:
        return pressing
    if len(roomy) > 0:
        return roomy[0]
    return PASS


def choose_sure(game):
    """The deed that the sure player chooses."""
    check_going_on(game)
    choices = candidates(game) + [PASS]
    gains = [gain_of(game, deed) for deed in choices]
    return choices[gains.index(max(gains))]


def play_out(game, *, most=20, style="plain"):
    """A new game that goes on by the deeds of one player for both hands, with at most so many added deeds."""
    check_number("most", most, 0, MOST_DEEDS)
    if style not in STYLES:
        raise NoEntry(style)
    played = game.twin()
    added = 0
    while added < most and not played.over:
        played.play(choose_sure(played) if style == "sure" else choose(played))
        added += 1
    return played


def check_going_on(game):
    """Refuses a game that is over."""
    if game.over:
        raise GameOver()


def most_taking(board, hand, places):
    """The first of the places where a laying takes the most stones, or None if no laying takes one."""
    counts = [taken_count(board, hand, place) for place in places]
    most = max(counts, default=0)
    if most == 0:
        return None
    return places[counts.index(most)]


def taken_count(board, hand, place):
    """The number of stones that the laying takes."""
    _, taken = after_laying(board, hand, place)
    return len(taken)


def open_count(board, hand, place):
    """The number of free neighbours that the company of the place has after the laying."""
    after, _ = after_laying(board, hand, place)
    return len(free_neighbours(after, place))


def most_pressing(board, hand, places):
    """The first of the places that touch a company of the hand that does not stand, one with the fewest neighbours.

    None if the places touch no such company.
    """
    steady = standing(board, hand)
    found = [(count, place) for place in places for count in counts_beside(board, hand, steady, place)]
    if len(found) == 0:
        return None
    _, place = min(found)
    return place


def counts_beside(board, hand, steady, place):
    """The numbers of free neighbours of the companies of the hand that the place touches, without the steady ones."""
    return [len(free_neighbours(board, name)) for name in touched_by(board, place, hand) if name not in steady]


def gain_of(game, deed):
    """What the hand to move is ahead by, in sure places, after the deed."""
    board = game.board
    if deed != PASS:
        board, _ = after_laying(board, game.turn, deed)
    dark, light, _ = sure_score(board)
    if game.turn == DARK:
        return dark - light
    return light - dark
