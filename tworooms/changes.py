"""What a laying changes: places that become standing ones, places that no longer are, and the papers for both."""

from tworooms.companies import name_of
from tworooms.laying import after_laying, lay, let_places
from tworooms.names import HANDS
from tworooms.records import boards_of
from tworooms.rooms import RoomTable
from tworooms.rounds import standing_in
from tworooms.takings import decide


def standing_places(board, hand):
    """The places of the standing companies of the hand, ascending."""
    table = RoomTable(board, hand)
    return sorted([place for company in standing_in(table) for place in table.company_places(company)])


def change_by(board, hand, place):
    """The places that each hand gains and loses by the laying."""
    after, _ = lay(board, hand, place)
    return {side: change_of(board, after, side) for side in HANDS}


def spoiling_places(board, hand):
    """The places on which the hand can lay and loses a standing place by it, ascending."""
    return [place for place in let_places(board, hand) if len(own_change(board, hand, place)[1]) > 0]


def strengthening_places(board, hand):
    """The places on which the hand can lay and gains a standing place by it, ascending."""
    return [place for place in let_places(board, hand) if len(own_change(board, hand, place)[0]) > 0]


def change_papers(board, hand, place):
    """The decisions after the laying for the companies with gained or lost places, ascending by name."""
    after, _ = lay(board, hand, place)
    changed = [found for side in HANDS for rows in change_of(board, after, side) for found in rows]
    papers = []
    # A lost place still bears its stone, so each changed place has a company.
    for name in sorted({name_of(after, found) for found in changed}):
        word, paper = decide(after, name)
        papers.append((name, word, paper))
    return papers


def standing_along(game, hand):
    """The standing places of the hand after 0, 1, .. deeds of the game."""
    return [standing_places(board, hand) for board in boards_of(game)]


def own_change(board, hand, place):
    """The places that the hand itself gains and loses by a let laying."""
    after, _ = after_laying(board, hand, place)
    return change_of(board, after, hand)


def change_of(board, after, hand):
    """The places that are standing ones of the hand on the second board alone, and on the first one alone."""
    old = standing_places(board, hand)
    new = standing_places(after, hand)
    return ([place for place in new if place not in old], [place for place in old if place not in new])
