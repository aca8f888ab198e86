"""Races on boards: boards made for a race, numbers read off a board, and races played and searched there."""

from tworooms.boards import Board
from tworooms.companies import check_right, company_of, free_neighbours, name_of, touched_by
from tworooms.errors import NoPlace, NoStone
from tworooms.games import Game
from tworooms.names import DARK, FREE, LIGHT, MOST_BUDGET, PASS, check_number
from tworooms.races import (LOSES, PASS_DEED, PEACE, WINS, after_deed, best_deed, check_bounds, check_race,
                            race_deeds)
from tworooms.rounds import standing, stands
from tworooms.search import attack
from tworooms.webs import Web

MOST_ON_BOARD = 4
MOST_SEARCHED = 2
GUARD_TIES = (("g", "g1"), ("g", "g2"), ("h", "h1"), ("h", "h2"))
SIGN_OF_STONE = {"d": "d", "g": "d", "h": "l", "l": "l"}
# The kind of free place that each race deed but the pass is made on.
KIND_OF_DEED = {"fill": "other", "share": "shared", "own": "own"}


def race_board(own, other, shared):
    """The race board of the numbers, with dark as the mover."""
    check_race(own, other, shared, MOST_ON_BOARD)
    ties = list(GUARD_TIES) + ties_of("a", own, "d", "h") + ties_of("b", other, "g", "l")
    ties.extend(ties_of("s", shared, "d", "l"))
    # In a race both companies have a free neighbour, so each place has a tie.
    web = Web(sorted({place for tie in ties for place in tie}), ties)
    return Board(web, "".join([SIGN_OF_STONE.get(place, FREE) for place in web]))


def race_numbers(board, one, two):
    """The numbers of the race between the companies of the two places, or None if the board is no race of them."""
    kinds = kinds_of_race(board, one, two)
    if kinds is None:
        return None
    return numbers_of(kinds)


def race_place(board, one, two, deed):
    """The place of the race deed or the pass; None if there is no race or no such deed in it."""
    kinds = kinds_of_race(board, one, two)
    if kinds is None:
        return None
    own, other, shared = numbers_of(kinds)
    if deed not in race_deeds(own, other, shared):
        return None
    if deed == PASS_DEED:
        return PASS
    return min(kinds[KIND_OF_DEED[deed]])


def race_game(own, other, shared):
    """The game on the race board in which both hands make the best deeds, and its result for dark."""
    game = Game(race_board(own, other, shared), DARK)
    race = (own, other, shared)
    after_pass = False
    one = "d"
    two = "l"
    while race is not None and not game.over:
        deed = best_deed(*race, after_pass)
        game.play(race_place(game.board, one, two, deed))
        race = after_deed(*race, deed)
        after_pass = deed == PASS_DEED
        one, two = two, one
    return (game, result_on(game.board))


def race_search(own, other, shared, *, budget=400):
    """The value of the race as two searches on its race board tell it, or `open`."""
    check_bounds(own, other, shared, MOST_SEARCHED)
    check_number("budget", budget, 1, MOST_BUDGET)
    # Numbers that are no race are told behind all bounds.
    board = race_board(own, other, shared)
    depth = 2 * (other + shared) - 1
    verdict, _, _ = attack(board, "l", first=DARK, depth=depth, budget=budget, shield="d")
    if verdict != "kept":
        return value_of_verdict(verdict, WINS)
    depth = 2 * (own + shared)
    verdict, _, _ = attack(board, "d", first=DARK, depth=depth, budget=budget, shield="l")
    if verdict != "kept":
        return value_of_verdict(verdict, LOSES)
    return PEACE


def ties_of(letter, many, one, two):
    """The ties of so many places, named by the letter and a number, to two others."""
    names = [f"{letter}{at + 1}" for at in range(many)]
    return [(name, beside) for name in names for beside in (one, two)]


def result_on(board):
    """The result for dark on the last board of a race game."""
    if board.hand_at("l") != LIGHT:
        return WINS
    if board.hand_at("d") != DARK:
        return LOSES
    return PEACE


def value_of_verdict(verdict, value):
    """The value that a search says if it is not kept."""
    if verdict == "taken":
        return value
    return verdict


def check_two_stones(board, one, two):
    """Refuses what is no place of the web, no right board or a place without a stone, for two places."""
    for place in (one, two):
        if place not in board.web:
            raise NoPlace(place)
    check_right(board)
    for place in (one, two):
        if board.sign(place) == FREE:
            raise NoStone(place)


def kinds_of_race(board, one, two):
    """The free places of each kind, ascending, or None if the board is no race of the two companies."""
    check_two_stones(board, one, two)
    if board.sign(one) == board.sign(two):
        return None
    if not is_met_by_one(board, one, two) or not is_met_by_one(board, two, one):
        return None
    kinds = {"own": [], "other": [], "shared": []}
    for place in sorted(set(free_neighbours(board, one) + free_neighbours(board, two))):
        kind = kind_of_place(board, one, two, place)
        if kind is None:
            return None
        kinds[kind].append(place)
    return kinds


def numbers_of(kinds):
    """The numbers of free places of the three kinds."""
    return (len(kinds["own"]), len(kinds["other"]), len(kinds["shared"]))


def is_met_by_one(board, one, two):
    """Whether each company of the hand of `two` that touches the company of `one` is that of `two` or stands."""
    hand = board.hand_at(two)
    stones = [place for place in board.web.border(company_of(board, one)) if board.hand_at(place) == hand]
    steady = [name_of(board, two)] + standing(board, hand)
    return all([name_of(board, stone) in steady for stone in stones])


def kind_of_place(board, one, two, place):
    """The kind of a free place that touches one of the two companies, or None."""
    if any([board.sign(beside) == FREE for beside in board.web.near(place)]):
        return None
    mine = touched_by(board, place, board.hand_at(one))
    theirs = touched_by(board, place, board.hand_at(two))
    touches_mine_alone = mine == [name_of(board, one)]
    touches_theirs_alone = theirs == [name_of(board, two)]
    if touches_mine_alone and touches_theirs_alone:
        return "shared"
    if touches_mine_alone and is_guarded(board, theirs, two):
        return "own"
    if touches_theirs_alone and is_guarded(board, mine, one):
        return "other"
    return None


def is_guarded(board, names, rival):
    """Whether one of these companies stands and none of them is the company of the rival place."""
    return name_of(board, rival) not in names and any([stands(board, name) for name in names])
