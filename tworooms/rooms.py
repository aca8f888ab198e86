"""Rooms of a hand, the companies at their borders, and the rooms that are a company's own."""

from tworooms.companies import check_place_for, check_right, check_stone, company_names, company_of, name_of
from tworooms.errors import NoEntry, NoPlace
from tworooms.names import FREE, check_hand, sign_of


def rooms_of(board, hand):
    """The rooms of the hand, each with its places, ascending."""
    check_hand(hand)
    check_right(board)
    return parts_without(board, sign_of(hand))


def room_of(board, hand, place):
    """The places of the room that contains the place, ascending."""
    check_place_for(board, hand, place)
    return room_around(board, sign_of(hand), place)


def room_border(board, hand, place):
    """The names of the border companies of the room that contains the place, ascending."""
    check_place_for(board, hand, place)
    room = room_around(board, sign_of(hand), place)
    # What borders on a room and is not in it bears a stone of the hand.
    return sorted({name_of(board, stone) for stone in board.web.border(room)})


def owns(board, place, room):
    """Whether the room that contains the place `room` is own to the company of the other place."""
    for name in (place, room):
        if name not in board.web:
            raise NoPlace(name)
    check_stone(board, place)
    places = room_around(board, board.sign(place), room)
    border = board.web.border(company_of(board, place))
    return len(places) > 0 and is_own(board, border, places)


class RoomTable:
    """The companies and the rooms of a hand on a right board; it never changes."""

    def __init__(self, board, hand):
        check_hand(hand)
        check_right(board)
        self.hand = hand
        self._board = board
        self._room_parts = {places[0]: places for places in parts_without(board, sign_of(hand))}
        self._room_names = list(self._room_parts)
        self._company_parts = {name: company_of(board, name) for name in company_names(board, hand)}
        self._borders = border_table(board, self._room_parts, self._company_parts)
        self._own = {name: own_rooms_of(board, self._company_parts[name], self._room_parts)
                     for name in self._company_parts}

    @property
    def board(self):
        """The board of the table."""
        return self._board

    @property
    def companies(self):
        """The names of the companies, ascending."""
        return list(self._company_parts)

    @property
    def rooms(self):
        """The names of the rooms, ascending."""
        return list(self._room_names)

    def room_places(self, room):
        """The places of the room, ascending."""
        self._check_room(room)
        return list(self._room_parts[room])

    def company_places(self, company):
        """The places of the company, ascending."""
        self._check_company(company)
        return list(self._company_parts[company])

    def border_of(self, room):
        """The names of the border companies of the room, ascending."""
        self._check_room(room)
        return list(self._borders[room])

    def own_rooms(self, company):
        """The names of the rooms that are own to the company, ascending."""
        self._check_company(company)
        return list(self._own[company])

    def own_companies(self, room):
        """The names of the companies to which the room is own, ascending."""
        self._check_room(room)
        return [company for company in self.companies if room in self._own[company]]

    def rooms_at(self, company):
        """The names of the rooms that touch the company, ascending."""
        self._check_company(company)
        return [room for room in self._room_names if company in self._borders[room]]

    def _check_room(self, room):
        if room not in self._room_parts:
            raise NoEntry(room)

    def _check_company(self, company):
        if company not in self._company_parts:
            raise NoEntry(company)

    def __len__(self):
        return len(self._room_names)

    def __iter__(self):
        return iter(self._room_names)


def parts_without(board, sign):
    """The parts of the set of the places that do not bear this sign, in ascending order."""
    return board.web.parts([place for place in board.web if board.sign(place) != sign])


def room_around(board, sign, place):
    """The part of the set of the places without this sign that contains the place; empty if it bears the sign."""
    return board.web.part(place, [name for name in board.web if board.sign(name) != sign])


def is_own(board, border, room):
    """Whether the room is own to the company with this outer border: each free place of it touches the company."""
    return all([place in border for place in room if board.sign(place) == FREE])


def border_table(board, rooms, companies):
    """The names of the border companies of each room, ascending; both dicts give names their places."""
    company_at = {place: name for name in companies for place in companies[name]}
    return {room: sorted({company_at[stone] for stone in board.web.border(rooms[room])}) for room in rooms}


def own_rooms_of(board, company, rooms):
    """The names of the rooms that are own to the company, ascending; the dict gives the rooms their places."""
    border = board.web.border(company)
    return [name for name in rooms if is_own(board, border, rooms[name])]
