"""Rows of layings that take a company: built from the rounds, judged, and found by looking at all boards."""

from tworooms.companies import check_right, check_stone, free_neighbours
from tworooms.errors import Stands, TooMany
from tworooms.games import Game
from tworooms.laying import after_laying, try_laying
from tworooms.names import MOST_BOARDS, PASS, check_hand, other_hand
from tworooms.papers import is_paper_for, narrow_paper
from tworooms.rooms import RoomTable
from tworooms.rounds import kept_table, stands


def taking_steps(board, place):
    """The steps that take the company of the place: (company, its kept room, layings)."""
    if stands(board, place):
        raise Stands(place)
    return steps_until(board, board.hand_at(place), place)


def taking_row(board, place):
    """The layings of these steps, in order."""
    return layings_of(taking_steps(board, place))


def taking_game(board, place):
    """The game in which the attacker makes these layings and the other hand passes."""
    row = taking_row(board, place)
    game = Game(board, other_hand(board.hand_at(place)))
    for at, laying in enumerate(row):
        if at > 0:
            game.play(PASS)
        game.play(laying)
    return game


def is_taking_row(board, place, row):
    """Whether the row takes the company of the place, each laying being let."""
    check_stone(board, place)
    hand = board.hand_at(place)
    after = board_after(board, other_hand(hand), row)
    return after is not None and after.hand_at(place) != hand


def taking_all(board, hand):
    """The row that takes all companies of the hand that do not stand."""
    return layings_of(steps_until(board, hand, None))


def reached_boards(board, hand):
    """The signs of the boards that layings of the other hand alone lead to, ascending."""
    check_hand(hand)
    check_right(board)
    return sorted([reached.signs for reached, _ in reached_rows(board, other_hand(hand))])


def least_taking(board, place):
    """The least of the shortest taking rows, or None if the company stands."""
    check_stone(board, place)
    hand = board.hand_at(place)
    for reached, row in reached_rows(board, other_hand(hand)):
        if reached.hand_at(place) != hand:
            return row
    return None


def decide(board, place):
    """What becomes of the company of the place, with its certificate."""
    if stands(board, place):
        return ("stands", narrow_paper(board, place))
    return ("falls", taking_row(board, place))


def is_decision(board, place, word, paper):
    """Whether the paper shows that the word is true of the company of the place."""
    check_stone(board, place)
    if word == "stands":
        return all([isinstance(row, tuple) for row in paper]) and is_paper_for(board, place, paper)
    if word == "falls":
        return all([isinstance(row, str) for row in paper]) and is_taking_row(board, place, paper)
    return False


def steps_until(board, hand, target):
    """The steps in the order out until the target place is taken; all steps, if the target is None."""
    table = RoomTable(board, hand)
    kept = kept_table(table)
    now = board
    steps = []
    for company in kept:
        # A company that an earlier turn took off has no turn.
        if now.hand_at(company) == hand:
            room = kept[company]
            row, now = turn_of(now, company, places_of(table, room), target)
            steps.append((company, room, row))
            if target is not None and now.hand_at(target) != hand:
                return steps
    return steps


def places_of(table, room):
    """The places that the kept room has on the first board; none, if there is no kept room."""
    if room is None:
        return []
    return table.room_places(room)


def turn_of(board, company, kept_places, target):
    """The layings of the turn of a company, up to the one that takes the target, and the board after them."""
    hand = board.hand_at(company)
    free = free_neighbours(board, company)
    outside = [place for place in free if place not in kept_places]
    inside = [place for place in free if place in kept_places]
    now = board
    row = []
    for place in outside + inside:
        now, _ = after_laying(now, other_hand(hand), place)
        row.append(place)
        if target is not None and now.hand_at(target) != hand:
            break
    return row, now


def layings_of(steps):
    """The layings of all steps, in order."""
    return [place for _, _, row in steps for place in row]


def board_after(board, hand, row):
    """The board after the hand laid on the places of the row, or None if a laying is not let."""
    now = board
    for place in row:
        if place not in now.web:
            return None
        fault, now, _ = try_laying(now, hand, place)
        if fault is not None:
            return None
    return now


def reached_rows(board, hand):
    """Each board that layings of the hand alone lead to, with the least of the shortest rows that lead to it.

    The boards are in the order of these rows: shorter ones first, and the lesser ones of one length first.
    """
    found = [(board, [])]
    seen = {board.signs: True}
    at = 0
    while at < len(found):
        now, row = found[at]
        at += 1
        for place, after in next_boards(now, hand):
            if after.signs not in seen:
                seen[after.signs] = True
                found.append((after, row + [place]))
        if len(found) > MOST_BOARDS:
            raise TooMany("boards", MOST_BOARDS)
    return found


def next_boards(board, hand):
    """Each place on which a laying of the hand is let, ascending, with the board after the laying."""
    found = []
    for place in board.web:
        fault, after, _ = try_laying(board, hand, place)
        if fault is None:
            found.append((place, after))
    return found
