"""What the tests share: webs, boards, and a plain second way to find what the program tells."""

import itertools
import unittest

from tworooms.boards import Board
from tworooms.webs import Web


class Case(unittest.TestCase):
    """A test case that can ask for an error with its attributes."""

    def refused(self, error, call, *given, **named):
        """The call raises an error of exactly this class with exactly these attributes."""
        with self.assertRaises(type(error)) as held:
            call(*given, **named)
        self.assertIs(type(held.exception), type(error))
        for name, value in vars(error).items():
            found = getattr(held.exception, name)
            self.assertEqual((type(found), found), (type(value), value), name)


def path_web(names):
    """The web in which each place is tied to the next one."""
    return Web(list(names), list(zip(names, names[1:])))


def ring_web(names):
    """The path with a tie from its last place to its first one."""
    return Web(list(names), list(zip(names, names[1:])) + [(names[-1], names[0])])


def grid_web(rows, columns):
    """Rows a, b, .. of places a1, a2, ..; each is tied to the next one in its row and in its column."""
    names = [[letter + str(k + 1) for k in range(columns)] for letter in "abcdefgh"[:rows]]
    ties = [(row[k], row[k + 1]) for row in names for k in range(columns - 1)]
    ties += [(one[k], two[k]) for one, two in zip(names, names[1:]) for k in range(columns)]
    return Web([name for row in names for name in row], ties)


def tree_web(many):
    """So many places a, b, .., each tied to at most two further ones."""
    names = "abcdefghijklmnopqrst"[:many]
    return Web(list(names), [(names[(k - 1) // 2], names[k]) for k in range(1, many)])


# A path a-b-c-d-e and a path f-g-h-i-j, not joined, with a further place at every second place of both.
TWO_COMBS = Web(list("abcdefghij") + ["a1", "c1", "e1", "f1", "h1", "j1"],
                list(zip("abcd", "bcde")) + list(zip("fghi", "ghij")) + [(name, name + "1") for name in "acefhj"])


def all_webs(names):
    """Each web with exactly these places."""
    pairs = list(itertools.combinations(names, 2))
    for chosen in itertools.product([False, True], repeat=len(pairs)):
        yield Web(list(names), [pair for pair, use in zip(pairs, chosen) if use])


def all_boards(web):
    """Each board on the web, right or not."""
    for signs in itertools.product(".dl", repeat=len(web.places)):
        yield Board(web, "".join(signs))


def right_boards(web):
    """Each right board on the web."""
    for board in all_boards(web):
        if not plain_closed(web, plain_signs(board)):
            yield board


def drawn_boards(web, many, bag="....ddddll"):
    """So many right boards, their signs drawn out of the bag by a fixed rule."""
    number, found = 1, []
    while len(found) < many:
        signs = ""
        for _ in web.places:
            number = (number * 1103515245 + 12345) % 2 ** 31
            signs += bag[(number >> 16) % len(bag)]
        if not plain_closed(web, plain_signs(Board(web, signs))):
            found.append(Board(web, signs))
    return found


def boards_to_compare():
    """The right boards on all webs of three places, on some of four and five, and some on larger webs."""
    star = Web("abcde", [("a", "e"), ("b", "e"), ("c", "e"), ("d", "e")])
    webs = list(all_webs("abc")) + [path_web("abcd"), ring_web("abcd"), path_web("abcde"), star,
                                    Web("abcd", [("a", "b"), ("a", "c"), ("a", "d"), ("b", "c")])]
    for web in webs:
        yield from right_boards(web)
    for web, bag in ((path_web("abcdefghi"), "...dddl"), (ring_web("abcdefghij"), "...ddddddl"),
                     (grid_web(3, 4), "...ddddddl"), (tree_web(15), "....ddddll"), (tree_web(15), "...ddddddl"),
                     (TWO_COMBS, "....ddddll")):
        yield from drawn_boards(web, 40, bag)


def other(hand):
    """The other hand."""
    return "light" if hand == "dark" else "dark"


def subsets(names):
    """Each set of the names, as a tuple in the order of the names."""
    return [rest for many in range(len(names) + 1) for rest in itertools.combinations(names, many)]


def plain_near(web):
    """The set of near places of each place, from the ties alone."""
    near = {place: set() for place in web.places}
    for one, two in web.ties:
        near[one].add(two)
        near[two].add(one)
    return near


def plain_distances(web, within):
    """The number of steps for each joined pair, found by walks of growing length."""
    near = plain_near(web)
    inside = set(within)
    steps = {}
    ends = {(place, place) for place in inside}
    for length in range(len(inside)):
        for pair in ends:
            steps.setdefault(pair, length)
        ends = {(one, far) for one, two in ends for far in near[two] & inside}
    return steps


def plain_parts(web, within):
    """The parts of a set of places, from the joined pairs."""
    steps = plain_distances(web, within)
    parts = {tuple(sorted(two for one, two in steps if one == place)) for place in within}
    return [list(part) for part in sorted(parts)]


def plain_border(web, within):
    """The outer border of a set of places."""
    near = plain_near(web)
    return sorted({two for one in within for two in near[one]} - set(within))


def plain_signs(board):
    """The sign of each place, from the text of the signs."""
    return dict(zip(board.web.places, board.signs))


def plain_companies(web, signs, sign):
    """The companies of the stones with this sign, in ascending order."""
    return plain_parts(web, [place for place in web.places if signs[place] == sign])


def plain_free(web, signs, company):
    """The free neighbours of a company."""
    return [place for place in plain_border(web, company) if signs[place] == "."]


def plain_closed(web, signs):
    """The companies of both hands without a free neighbour."""
    both = plain_companies(web, signs, "d") + plain_companies(web, signs, "l")
    return sorted(company for company in both if not plain_free(web, signs, company))


def plain_lay(web, signs, sign, place):
    """What point [19] says of a laying: (fault, signs after it, names and places taken off)."""
    if signs[place] != ".":
        return "occupied", signs, [], []
    after = {**signs, place: sign}
    other = "l" if sign == "d" else "d"
    gone = [company for company in plain_companies(web, after, other) if not plain_free(web, after, company)]
    names = [company[0] for company in gone]
    for stone in sum(gone, []):
        after[stone] = "."
    own = [company for company in plain_companies(web, after, sign) if place in company][0]
    if not plain_free(web, after, own):
        return "self-taking", signs, names, []
    return None, after, names, sorted(sum(gone, []))


class PlainRooms:
    """A second way to find the companies and rooms of a hand, and which of them border and own each other."""

    def __init__(self, board, hand):
        web, signs, near = board.web, plain_signs(board), plain_near(board.web)
        self.companies = {part[0]: part for part in plain_companies(web, signs, hand[0])}
        rooms = plain_parts(web, [place for place in web.places if signs[place] != hand[0]])
        self.rooms = {part[0]: part for part in rooms}
        self.border, self.own = {}, {name: [] for name in self.companies}
        for room, places in self.rooms.items():
            self.border[room] = [name for name, stones in self.companies.items()
                                 if any(near[place] & set(stones) for place in places)]
            for name, stones in self.companies.items():
                if all(near[place] & set(stones) for place in places if signs[place] == "."):
                    self.own[name].append(room)

    def is_good(self, family):
        """Whether the companies are a good family."""
        closed = {room for room in self.rooms if set(self.border[room]) <= set(family)}
        return all(len(closed & set(self.own[name])) >= 2 for name in family)

    def families(self):
        """All good families, as tuples."""
        return [family for family in subsets(list(self.companies)) if self.is_good(family)]

    def standing(self):
        """The names of the standing companies: the union of all good families."""
        return sorted(set().union(*self.families()))

    def rounds(self):
        """The rounds of point [36], found with sets."""
        companies, rooms, rounds = set(self.companies), set(self.rooms), []
        while True:
            out = {name for name in companies if len(rooms & set(self.own[name])) < 2}
            if not out:
                return rounds
            gone = {room for room in rooms if out & set(self.border[room])}
            rounds.append((sorted(out), sorted(gone)))
            companies, rooms = companies - out, rooms - gone

    def kept(self):
        """The kept room, or None, of each company that does not stand, in the order out."""
        kept, rooms = {}, set(self.rooms)
        for out, gone in self.rounds():
            kept.update({name: min(rooms & set(self.own[name]), default=None) for name in out})
            rooms -= set(gone)
        return kept


def plain_sure(plain, family):
    """The places of the companies and of the rooms that the family holds, and the names of these rooms."""
    held = [room for room in plain.rooms if set(plain.border[room]) <= set(family)
            and any(room in plain.own[name] for name in family)]
    return sorted(place for table, names in ((plain.companies, family), (plain.rooms, held))
                  for name in names for place in table[name]), held


def plain_reached(board, hand):
    """The least of the shortest rows of the other hand that lead to the signs of each reached board."""
    level = {board.signs: ()}
    found = dict(level)
    while level:
        further = {}
        for text, row in level.items():
            signs = dict(zip(board.web.places, text))
            for place in board.web.places:
                fault, after, _, _ = plain_lay(board.web, signs, other(hand)[0], place)
                if fault is None:
                    after = "".join(after.values())
                    further[after] = min(further.get(after, row + (place,)), row + (place,))
        level = {text: row for text, row in further.items() if text not in found}
        found.update(level)
    return found


class PlainGame:
    """A second way to play a game, which keeps every board as a text."""

    def __init__(self, board, first):
        self.web, self.signs, self.first = board.web, plain_signs(board), first
        self.deeds, self.stood, self.taken = [], [board.signs], []

    def hand(self):
        """The hand to move, whether or not the game is over."""
        hands = ["dark", "light"] if self.first == "dark" else ["light", "dark"]
        return hands[len(self.deeds) % 2]

    def over(self):
        return len(self.deeds) == 60 or (len(self.deeds) > 1 and self.deeds[-1] == self.deeds[-2] == "-")

    def look(self, deed):
        """The fault of a deed, the signs after it and the places taken off."""
        if self.over():
            return "over", None, None
        if deed == "-":
            return None, self.signs, []
        fault, after, _, places = plain_lay(self.web, self.signs, self.hand()[0], deed)
        if fault is None and "".join(after.values()) in self.stood:
            fault = "comes-back"
        return fault, after, places

    def open_deeds(self):
        """The let deeds, in order."""
        return [deed for deed in self.web.places + ["-"] if self.look(deed)[0] is None]

    def after(self, deed):
        """A new game with one more deed, which is let."""
        _, signs, places = self.look(deed)
        game = PlainGame.__new__(PlainGame)
        game.web, game.signs, game.first = self.web, signs, self.first
        game.deeds = self.deeds + [deed]
        game.stood = self.stood + ["".join(signs.values())]
        game.taken = self.taken + [places]
        return game


def play_on(game, step):
    """Plays until the game is over, by a rule that gives long games with takings and passes."""
    while not game.over:
        deeds = game.open_deeds()
        game.play(deeds[(len(game) * step) % max(len(deeds) - 1, 1)])
    return game
