"""What the tests share: webs, boards, and a plain second way to find what the program tells."""

import itertools
import unittest

from tworooms.boards import Board
from tworooms.webs import Web


class Case(unittest.TestCase):
    """A test case that can ask for an error with its attributes."""

    def refused(self, error, call, *given, **named):
        """The call raises an error of exactly this class with exactly these attributes."""
        with self.assertRaises(type(error)) as held:
            call(*given, **named)
        self.assertIs(type(held.exception), type(error))
        for name, value in vars(error).items():
            found = getattr(held.exception, name)
            self.assertEqual((type(found), found), (type(value), value), name)


def path_web(names):
    """The web in which each place is tied to the next one."""
    return Web(list(names), list(zip(names, names[1:])))


def ring_web(names):
    """The path with a tie from its last place to its first one."""
    return Web(list(names), list(zip(names, names[1:])) + [(names[-1], names[0])])


def grid_web(rows, columns):
    """Rows a, b, .. of places a1, a2, ..; each is tied to the next one in its row and in its column."""
    names = [[letter + str(k + 1) for k in range(columns)] for letter in "abcdefgh"[:rows]]
    ties = [(row[k], row[k + 1]) for row in names for k in range(columns - 1)]
    ties += [(one[k], two[k]) for one, two in zip(names, names[1:]) for k in range(columns)]
    return Web([name for row in names for name in row], ties)


def all_webs(names):
    """Each web with exactly these places."""
    pairs = list(itertools.combinations(names, 2))
    for chosen in itertools.product([False, True], repeat=len(pairs)):
        yield Web(list(names), [pair for pair, use in zip(pairs, chosen) if use])


def all_boards(web):
    """Each board on the web, right or not."""
    for signs in itertools.product(".dl", repeat=len(web.places)):
        yield Board(web, "".join(signs))


def subsets(names):
    """Each set of the names, as a tuple in the order of the names."""
    return [rest for many in range(len(names) + 1) for rest in itertools.combinations(names, many)]


def plain_near(web):
    """The set of near places of each place, from the ties alone."""
    near = {place: set() for place in web.places}
    for one, two in web.ties:
        near[one].add(two)
        near[two].add(one)
    return near


def plain_distances(web, within):
    """The number of steps for each joined pair, found by walks of growing length."""
    near = plain_near(web)
    inside = set(within)
    steps = {}
    ends = {(place, place) for place in inside}
    for length in range(len(inside)):
        for pair in ends:
            steps.setdefault(pair, length)
        ends = {(one, far) for one, two in ends for far in near[two] & inside}
    return steps


def plain_parts(web, within):
    """The parts of a set of places, from the joined pairs."""
    steps = plain_distances(web, within)
    parts = {tuple(sorted(two for one, two in steps if one == place)) for place in within}
    return [list(part) for part in sorted(parts)]


def plain_border(web, within):
    """The outer border of a set of places."""
    near = plain_near(web)
    return sorted({two for one in within for two in near[one]} - set(within))


def plain_signs(board):
    """The sign of each place, from the text of the signs."""
    return dict(zip(board.web.places, board.signs))


def plain_companies(web, signs, sign):
    """The companies of the stones with this sign, in ascending order."""
    return plain_parts(web, [place for place in web.places if signs[place] == sign])


def plain_free(web, signs, company):
    """The free neighbours of a company."""
    return [place for place in plain_border(web, company) if signs[place] == "."]


def plain_closed(web, signs):
    """The companies of both hands without a free neighbour."""
    both = plain_companies(web, signs, "d") + plain_companies(web, signs, "l")
    return sorted(company for company in both if not plain_free(web, signs, company))


def plain_lay(web, signs, sign, place):
    """What point [19] says of a laying: (fault, signs after it, names and places taken off)."""
    if signs[place] != ".":
        return "occupied", signs, [], []
    after = {**signs, place: sign}
    other = "l" if sign == "d" else "d"
    gone = [company for company in plain_companies(web, after, other) if not plain_free(web, after, company)]
    names = [company[0] for company in gone]
    for stone in sum(gone, []):
        after[stone] = "."
    own = [company for company in plain_companies(web, after, sign) if place in company][0]
    if not plain_free(web, after, own):
        return "self-taking", signs, names, []
    return None, after, names, sorted(sum(gone, []))


class PlainGame:
    """A second way to play a game, which keeps every board as a text."""

    def __init__(self, board, first):
        self.web, self.signs, self.first = board.web, plain_signs(board), first
        self.deeds, self.stood, self.taken = [], [board.signs], []

    def hand(self):
        """The hand to move, whether or not the game is over."""
        hands = ["dark", "light"] if self.first == "dark" else ["light", "dark"]
        return hands[len(self.deeds) % 2]

    def over(self):
        return len(self.deeds) == 60 or (len(self.deeds) > 1 and self.deeds[-1] == self.deeds[-2] == "-")

    def look(self, deed):
        """The fault of a deed, the signs after it and the places taken off."""
        if self.over():
            return "over", None, None
        if deed == "-":
            return None, self.signs, []
        fault, after, _, places = plain_lay(self.web, self.signs, self.hand()[0], deed)
        if fault is None and "".join(after.values()) in self.stood:
            fault = "comes-back"
        return fault, after, places

    def after(self, deed):
        """A new game with one more deed, which is let."""
        _, signs, places = self.look(deed)
        game = PlainGame.__new__(PlainGame)
        game.web, game.signs, game.first = self.web, signs, self.first
        game.deeds = self.deeds + [deed]
        game.stood = self.stood + ["".join(signs.values())]
        game.taken = self.taken + [places]
        return game


def play_on(game, step):
    """Plays until the game is over, by a rule that gives long games with takings and passes."""
    while not game.over:
        deeds = game.open_deeds()
        game.play(deeds[(len(game) * step) % max(len(deeds) - 1, 1)])
    return game
