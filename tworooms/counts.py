"""Counting: reach, territory and score on every board; held rooms, sure places and sure scores on right ones."""

from tworooms.companies import check_place_for
from tworooms.names import DARK, FREE, HANDS, LIGHT, other_hand, sign_of
from tworooms.papers import is_right_paper
from tworooms.records import boards_of, takings_of
from tworooms.rooms import RoomTable
from tworooms.rounds import standing_in


def free_parts(board):
    """The parts of the set of the free places, in ascending order."""
    return board.web.parts(board.bearing(FREE))


def reach_of(board, place):
    """The hands of the stones around the free part of the place, or the hand of its own stone."""
    hand = board.hand_at(place)
    if hand is not None:
        return [hand]
    return hands_around(board, board.web.part(place, board.bearing(FREE)))


def territory(board):
    """The free places by the hands that reach them, each list ascending."""
    found = {"dark": [], "light": [], "both": [], "none": []}
    for part in free_parts(board):
        found[reach_word(hands_around(board, part))].extend(part)
    return {word: sorted(found[word]) for word in found}


def score(board):
    """The score of dark, the score of light, and the rest."""
    places = territory(board)
    dark, light = [len(board.bearing(sign_of(hand))) + len(places[hand]) for hand in HANDS]
    return (dark, light, len(places["both"]) + len(places["none"]))


def held_rooms(board, hand):
    """The names of the held rooms of the hand, ascending."""
    table = RoomTable(board, hand)
    return rooms_within(table, standing_in(table))


def sure_places(board, hand):
    """The sure places of the hand, ascending."""
    table = RoomTable(board, hand)
    return places_within(table, standing_in(table))


def sure_score(board):
    """The number of sure places of dark, of light, and of the rest."""
    dark = len(sure_places(board, DARK))
    light = len(sure_places(board, LIGHT))
    return (dark, light, len(board.web) - dark - light)


def sure_winner(board):
    """The hand to which more than half of all places are sure, or None."""
    for hand in HANDS:
        if 2 * len(sure_places(board, hand)) > len(board.web):
            return hand
    return None


def report(game):
    """For each deed: the hand, the deed, the number of stones it took off, and the sure score after it."""
    taken = takings_of(game)
    boards = boards_of(game)
    hands = (game.first_hand, other_hand(game.first_hand))
    return [(hands[at % 2], deed, len(taken[at]), sure_score(boards[at + 1])) for at, deed in enumerate(game.deeds)]


def is_sure(board, hand, place, rows):
    """Whether the place is sure by the stand paper of the hand."""
    check_place_for(board, hand, place)
    table = RoomTable(board, hand)
    return is_right_paper(table, rows) and place in places_within(table, [row[0] for row in rows])


def hands_around(board, part):
    """The hands of the stones on the outer border of a free part, dark ahead of light."""
    found = [board.hand_at(place) for place in board.web.border(part)]
    return [hand for hand in HANDS if hand in found]


def reach_word(hands):
    """The word of the territory for a reach."""
    if len(hands) == 1:
        return hands[0]
    if len(hands) == 0:
        return "none"
    return "both"


def rooms_within(table, family):
    """The names of the rooms that are own to a company of the family and that only the family borders."""
    return [room for room in table.rooms
            if any([company in family for company in table.own_companies(room)])
            and all([company in family for company in table.border_of(room)])]


def places_within(table, family):
    """The places of the companies of the family and of its rooms, ascending."""
    places = [place for company in family for place in table.company_places(company)]
    for room in rooms_within(table, family):
        places.extend(table.room_places(room))
    return sorted(places)
