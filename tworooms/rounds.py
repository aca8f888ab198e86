"""Rounds: which companies of a hand stand, and in which order the others go out."""

from tworooms.companies import check_stone, company_names, name_of
from tworooms.errors import Stands, TooMany
from tworooms.names import DARK, LIGHT
from tworooms.rooms import RoomTable

MOST_COMPANIES = 8


def rounds_of(board, hand):
    """The rounds, each as the names of the companies and of the rooms that go out in it."""
    return rounds_in(RoomTable(board, hand))


def is_log(board, hand, log):
    """Whether the log takes out right companies and rooms until only standing companies are alive."""
    table = RoomTable(board, hand)
    companies = table.companies
    rooms = table.rooms
    for out, gone in log:
        weak = weak_companies(table, companies, rooms)
        if len(out) == 0 or out != sorted(set(out)) or not all([company in weak for company in out]):
            return False
        if gone != rooms_beside(table, rooms, out):
            return False
        companies = left_of(companies, out)
        rooms = left_of(rooms, gone)
    return len(weak_companies(table, companies, rooms)) == 0


def standing(board, hand):
    """The names of the standing companies of the hand, ascending."""
    return standing_in(RoomTable(board, hand))


def standing_both(board):
    """The names of the standing companies of each hand."""
    return {"dark": standing(board, DARK), "light": standing(board, LIGHT)}


def stands(board, place):
    """Whether the company of the place stands."""
    check_stone(board, place)
    return name_of(board, place) in standing(board, board.hand_at(place))


def out_order(board, hand):
    """The names of the companies that do not stand, in the order in which they go out."""
    return [company for out, _ in rounds_of(board, hand) for company in out]


def kept_room(board, place):
    """The name of the own room that the company of the place kept until it went out, or None."""
    check_stone(board, place)
    kept = kept_table(RoomTable(board, board.hand_at(place)))
    name = name_of(board, place)
    if name not in kept:
        raise Stands(place)
    return kept[name]


def ranks(board, hand):
    """The number of the round in which each company of the hand goes out, 0 for a standing one."""
    table = RoomTable(board, hand)
    found = {company: 0 for company in table.companies}
    for at, (out, _) in enumerate(rounds_in(table)):
        for company in out:
            found[company] = at + 1
    return found


def is_good_family(board, hand, names):
    """Whether the names are those of different companies of the hand that are a good family."""
    table = RoomTable(board, hand)
    if len(set(names)) < len(names) or not all([name in table.companies for name in names]):
        return False
    return is_good(table, names)


def standing_plain(board, hand):
    """The names of the standing companies, as the union of all good families, ascending."""
    names = company_names(board, hand)
    if len(names) > MOST_COMPANIES:
        raise TooMany("companies", MOST_COMPANIES)
    table = RoomTable(board, hand)
    found = set()
    for chosen in range(1 << len(names)):
        # The binary digits of the number tell which companies are in the family.
        family = [name for at, name in enumerate(names) if (chosen >> at) & 1 == 1]
        if is_good(table, family):
            for name in family:
                found.add(name)
    return sorted(found)


def rounds_in(table):
    """The rounds of the hand of a room table."""
    companies = table.companies
    rooms = table.rooms
    rounds = []
    out = weak_companies(table, companies, rooms)
    while len(out) > 0:
        gone = rooms_beside(table, rooms, out)
        rounds.append((out, gone))
        companies = left_of(companies, out)
        rooms = left_of(rooms, gone)
        out = weak_companies(table, companies, rooms)
    return rounds


def standing_in(table):
    """The names of the standing companies of a room table, ascending."""
    return left_of(table.companies, [company for out, _ in rounds_in(table) for company in out])


def kept_table(table):
    """The kept room, or None, of each company that does not stand; the keys are in the order out."""
    kept = {}
    rooms = table.rooms
    for out, gone in rounds_in(table):
        for company in out:
            own = own_among(table, company, rooms)
            kept[company] = own[0] if len(own) > 0 else None
        rooms = left_of(rooms, gone)
    return kept


def own_among(table, company, rooms):
    """Those of the rooms that are own to the company."""
    return [room for room in table.own_rooms(company) if room in rooms]


def weak_companies(table, companies, rooms):
    """Those of the companies that have fewer than two own rooms among the rooms."""
    return [company for company in companies if len(own_among(table, company, rooms)) < 2]


def rooms_beside(table, rooms, out):
    """Those of the rooms that have one of the companies that go out as border company."""
    return [room for room in rooms if any([company in out for company in table.border_of(room)])]


def left_of(names, gone):
    """Those of the names that are not gone."""
    return [name for name in names if name not in gone]


def is_good(table, family):
    """Whether each company of the family has two own rooms that only companies of the family border."""
    rooms = [room for room in table.rooms if all([company in family for company in table.border_of(room)])]
    return len(weak_companies(table, family, rooms)) == 0
