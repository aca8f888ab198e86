"""Likenesses of webs: dicts that keep ties, and boards, rows, games and papers led along them."""

from tworooms.boards import Board
from tworooms.companies import is_right
from tworooms.errors import BadMap, NoEntry, NoPlace, TooMany
from tworooms.games import Game
from tworooms.making import right_boards
from tworooms.names import PASS, check_hand
from tworooms.rooms import RoomTable

MOST_FOR_FIRST = 6
MOST_FOR_ALL = 5
MOST_FOR_COUNT = 4


def is_likeness(one, two, mapping):
    """Whether the dict is a likeness of the one web onto the other."""
    if sorted(mapping) != one.places or sorted(mapping.values()) != two.places:
        return False
    return all([one.tied(left, right) == two.tied(mapping[left], mapping[right]) for left in one for right in one])


def first_likeness(one, two):
    """The least likeness of the one web onto the other, or None."""
    check_size(one, MOST_FOR_FIRST)
    check_size(two, MOST_FOR_FIRST)
    maps = all_likenesses(one, two)
    if len(maps) == 0:
        return None
    return maps[0]


def likenesses(web):
    """All likenesses of the web onto itself, in order."""
    check_size(web, MOST_FOR_ALL)
    return all_likenesses(web, web)


def inverse_map(mapping):
    """The dict with keys and values exchanged."""
    inverse = {mapping[key]: key for key in mapping}
    if len(inverse) < len(mapping):
        raise BadMap()
    return inverse


def composed(first, second):
    """The dict that gives each key of the first what the second gives its value."""
    for key in first:
        if first[key] not in second:
            raise BadMap()
    return {key: second[first[key]] for key in first}


def lead_board(board, two, mapping):
    """The board led along the likeness."""
    check_likeness(board.web, two, mapping)
    return led_board(board, two, mapping)


def orbit_of(board):
    """The signs of all boards to which the likenesses of its web onto itself lead the board, ascending."""
    web = board.web
    return sorted({led_board(board, web, mapping).signs for mapping in likenesses(web)})


def least_form(board):
    """The board of the orbit with the least signs."""
    return Board(board.web, orbit_of(board)[0])


def leading_likeness(one, two):
    """The first likeness along which the one board is led to the other, or None."""
    check_size(one.web, MOST_FOR_ALL)
    check_size(two.web, MOST_FOR_ALL)
    for mapping in all_likenesses(one.web, two.web):
        if led_board(one, two.web, mapping) == two:
            return mapping
    return None


def orbit_count(web):
    """The number of different orbits of the right boards of the web."""
    check_size(web, MOST_FOR_COUNT)
    # Each orbit has one board with the least signs.
    return len([signs for signs in right_boards(web) if orbit_of(Board(web, signs))[0] == signs])


def lead_row(row, mapping):
    """The places that the dict gives the places of the row, in order."""
    for place in row:
        if place not in mapping:
            raise NoPlace(place)
    return [mapping[place] for place in row]


def lead_game(game, two, mapping):
    """The game led along the likeness."""
    led = Game(lead_board(game.first_board, two, mapping), game.first_hand)
    for deed in game.deeds:
        # A pass is no place, so no likeness has it as a key.
        led.play(mapping.get(deed, PASS))
    return led


def lead_paper(board, hand, rows, two, mapping):
    """The stand paper led along the likeness."""
    check_hand(hand)
    if is_right(board):
        check_names(RoomTable(board, hand), rows)
    check_likeness(board.web, two, mapping)
    # On a board that is not right this refuses the board, behind a wrong likeness.
    table = RoomTable(board, hand)
    companies = {name: led_name(table.company_places(name), mapping) for name in table.companies}
    rooms = {name: led_name(table.room_places(name), mapping) for name in table.rooms}
    return sorted([led_row(companies[company], rooms[left], rooms[right]) for company, left, right in rows])


def check_size(web, most):
    """Refuses a web with more places."""
    if len(web) > most:
        raise TooMany("places", most)


def check_likeness(one, two, mapping):
    """Refuses a dict that is no likeness of the one web onto the other."""
    if not is_likeness(one, two, mapping):
        raise BadMap()


def check_names(table, rows):
    """Refuses the first text of the rows that is not the name of a company or of a room, as its place in the row."""
    companies = table.companies
    rooms = table.rooms
    for company, left, right in rows:
        if company not in companies:
            raise NoEntry(company)
        for room in (left, right):
            if room not in rooms:
                raise NoEntry(room)


def all_likenesses(one, two):
    """All likenesses of the one web onto the other, in order."""
    if len(one) != len(two):
        return []
    places = one.places
    # Each round gives one more place in all fitting ways; the rows stay in ascending order.
    rows = [[]]
    for _ in places:
        rows = [row + [given] for row in rows for given in two if fits(one, two, row, given)]
    return [{place: given for place, given in zip(places, row)} for row in rows]


def fits(one, two, row, given):
    """Whether the next place of the one web may be given this place, after the row of places given so far."""
    places = one.places
    place = places[len(row)]
    if given in row:
        return False
    return all([one.tied(places[at], place) == two.tied(before, given) for at, before in enumerate(row)])


def led_board(board, two, mapping):
    """The board led along a dict that is known to be a likeness."""
    sign_at = {mapping[place]: board.sign(place) for place in board.web}
    return Board(two, "".join([sign_at[place] for place in two]))


def led_name(places, mapping):
    """The name, on the new board, of the company or room with these places."""
    return min(lead_row(places, mapping))


def led_row(company, left, right):
    """The row of a paper with its two rooms in ascending order."""
    if left > right:
        return (company, right, left)
    return (company, left, right)
