"""Stand papers: a family of companies with two rooms each, the certificate that they all stand."""

from tworooms.companies import check_stone, name_of
from tworooms.errors import Falls
from tworooms.rooms import RoomTable
from tworooms.rounds import left_of, own_among, rounds_in


def stand_paper(board, hand):
    """The paper with one row for each standing company of the hand, ascending."""
    return paper_in(RoomTable(board, hand))


def narrow_paper(board, place):
    """The rows of the paper of the hand that the company of the place needs, ascending."""
    check_stone(board, place)
    table = RoomTable(board, board.hand_at(place))
    row_of = {row[0]: row for row in paper_in(table)}
    name = name_of(board, place)
    if name not in row_of:
        raise Falls(place)
    needed = [name]
    at = 0
    while at < len(needed):
        _, one, two = row_of[needed[at]]
        at += 1
        for company in table.border_of(one) + table.border_of(two):
            if company not in needed:
                needed.append(company)
    return [row_of[company] for company in sorted(needed)]


def is_stand_paper(board, hand, rows):
    """Whether the rows are a right stand paper of the hand."""
    return is_right_paper(RoomTable(board, hand), rows)


def is_paper_for(board, place, rows):
    """Whether the rows are a right stand paper with a row for the company of the place."""
    check_stone(board, place)
    if name_of(board, place) not in [row[0] for row in rows]:
        return False
    return is_stand_paper(board, board.hand_at(place), rows)


def paper_rooms(rows):
    """The names of the rooms in the rows, ascending."""
    return sorted({room for _, one, two in rows for room in (one, two)})


def paper_in(table):
    """The paper of the hand of a room table."""
    companies = table.companies
    rooms = table.rooms
    for out, gone in rounds_in(table):
        companies = left_of(companies, out)
        rooms = left_of(rooms, gone)
    paper = []
    for company in companies:
        one, two = own_among(table, company, rooms)[:2]
        paper.append((company, one, two))
    return paper


def is_right_paper(table, rows):
    """Whether the rows are a right stand paper of the hand of a room table."""
    family = [row[0] for row in rows]
    if len(set(family)) < len(family):
        return False
    return all([is_right_row(table, family, row) for row in rows])


def is_right_row(table, family, row):
    """Whether the row names two different own rooms of its company that only the family borders."""
    company, one, two = row
    if company not in table.companies or one == two:
        return False
    own = table.own_rooms(company)
    if one not in own or two not in own:
        return False
    return all([name in family for name in table.border_of(one) + table.border_of(two)])
