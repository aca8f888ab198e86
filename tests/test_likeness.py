"""Points [91] to [95]: likenesses, what is led along them, orbits and least forms."""

import itertools
import random
import unittest

from helper import (Case, PlainRooms, all_boards, all_webs, drawn_boards, grid_web, other, path_web, play_on,
                    right_boards, ring_web)
from tworooms.boards import Board, empty_board
from tworooms.changes import standing_places
from tworooms.companies import is_right
from tworooms.counts import held_rooms, sure_places
from tworooms.errors import BadMap, NoEntry, NoHand, NoPlace, NotRight, TooMany
from tworooms.games import Game
from tworooms.likeness import (composed, first_likeness, inverse_map, is_likeness, lead_board, lead_game, lead_paper,
                               lead_row, leading_likeness, least_form, likenesses, orbit_count, orbit_of)
from tworooms.papers import is_stand_paper, stand_paper
from tworooms.records import takings_of
from tworooms.rooms import RoomTable
from tworooms.takings import is_taking_row, taking_row
from tworooms.webs import Web

HANDS = ("dark", "light")
PATH = path_web("abcd")
STAR = Web("abcd", [("a", "b"), ("a", "c"), ("a", "d")])
TURN = {"a": "d", "b": "c", "c": "b", "d": "a"}


def plain_likenesses(one, two):
    """All likenesses of the one web onto the other, from all orders of the places."""
    wanted = {frozenset(tie) for tie in two.ties}
    if len(one) != len(two):
        return []
    maps = [dict(zip(one.places, row)) for row in itertools.permutations(two.places)]
    return [found for found in maps if {frozenset((found[left], found[right])) for left, right in one.ties} == wanted]


def small_webs():
    """Webs of one to five places, several of them alike."""
    return [Web("a", []), *all_webs("ab"), *all_webs("abc"), Web("xyz", [("x", "y"), ("x", "z")]), PATH,
            path_web("bdac"), STAR, ring_web("abcd"), Web("abcd", []), Web("abcd", [("a", "b"), ("c", "d")]),
            ring_web("acebd"), path_web("abcde"), Web("abcde", [("a", "b"), ("b", "c"), ("b", "d"), ("d", "e")]),
            Web("vwxyz", list(itertools.combinations("vwxyz", 2)))]


def renamed(web, names):
    """The web with other names, and the likeness onto it."""
    found = dict(zip(web.places, names))
    return Web(list(found.values()), [(found[one], found[two]) for one, two in web.ties]), found


def led_text(board, two, mapping):
    """The signs of a board that is led, by the words of point [93]."""
    back = {given: place for place, given in mapping.items()}
    return "".join(board.sign(back[place]) for place in two.places)


class TestLikenesses(Case):
    def test_all_pairs_of_small_webs(self):
        seen = 0
        for one, two in itertools.product(small_webs(), repeat=2):
            told = plain_likenesses(one, two)
            seen += len(told) > 0
            self.assertEqual(first_likeness(one, two), told[0] if told else None)
            for mapping in told[:3]:
                self.assertIs(is_likeness(one, two, mapping), True)
        self.assertGreater(seen, 40)

    def test_all_likenesses_of_a_web(self):
        for web in small_webs():
            told = plain_likenesses(web, web)
            self.assertEqual(likenesses(web), told)
            self.assertEqual([list(found.values()) for found in told], sorted(list(found.values()) for found in told))
        self.assertEqual(len(likenesses(Web("abcde", []))), 120)
        self.assertEqual(likenesses(web=PATH), [{place: place for place in "abcd"}, TURN])

    def test_all_dicts_between_small_webs(self):
        told = {True: 0, False: 0}
        for one, two in itertools.product(all_webs("abc"), all_webs("abx")):
            for row in itertools.product("abxz", repeat=3):
                found = dict(zip("abc", row))
                right = found in plain_likenesses(one, two)
                self.assertIs(is_likeness(one, two, found), right)
                told[right] += 1
        self.assertGreater(min(told.values()), 40)

    def test_each_way_of_being_none(self):
        self.assertIs(is_likeness(one=PATH, two=PATH, mapping=TURN), True)
        for wrong in ({}, {"a": "d", "b": "c", "c": "b"}, {**TURN, "e": "e"}, {**TURN, "-": "-"}, {**TURN, "d": "d"},
                      {**TURN, "a": "x"}, {"a": "a", "b": "c", "c": "b", "d": "d"}, {"w": "a", "x": "b"},
                      {"w": "a", "x": "b", "y": "c", "z": "d"}, {"a": "a", "b": "b", "c": "c", "D": "d"}):
            self.assertIs(is_likeness(PATH, PATH, wrong), False, wrong)
        same = {place: place for place in "abcd"}
        self.assertIs(is_likeness(PATH, Web("abcd", PATH.ties + [("a", "c")]), same), False)
        self.assertIs(is_likeness(PATH, Web("abcd", PATH.ties[:2]), same), False)
        self.assertIs(is_likeness(PATH, path_web("abcde"), same), False)
        self.assertIs(is_likeness(path_web("abcde"), PATH, {**same, "e": "d"}), False)
        self.assertIs(is_likeness(Web("a", []), Web("b", []), {"a": "b"}), True)

    def test_large_webs(self):
        web = grid_web(4, 5)
        names = [f"p{20 + k}" for k in range(20)]
        two, mapping = renamed(web, names[::-1])
        self.assertIs(is_likeness(web, two, mapping), True)
        names[0], names[1] = names[1], names[0]
        self.assertIs(is_likeness(web, two, dict(zip(web.places, names[::-1]))), False)

    def test_too_many_places(self):
        seven, six, five = path_web("abcdefg"), path_web("abcdef"), path_web("abcde")
        for one, two in ((seven, seven), (seven, six), (six, seven), (Web("a", []), seven), (grid_web(4, 5), five)):
            self.refused(TooMany("places", 6), first_likeness, one, two)
        self.assertEqual(first_likeness(one=six, two=six), {place: place for place in "abcdef"})
        self.assertIsNone(first_likeness(six, five))
        self.assertEqual(first_likeness(Web("abcdef", []), Web("uvwxyz", [])), dict(zip("abcdef", "uvwxyz")))
        for web in (six, seven):
            self.refused(TooMany("places", 5), likenesses, web)

    def test_inverse_and_composed(self):
        self.assertEqual(inverse_map(mapping={"x": "", "": "-", "no place": "x"}), {"": "x", "-": "", "x": "no place"})
        self.assertEqual(inverse_map({}), {})
        self.refused(BadMap(), inverse_map, {"a": "x", "b": "y", "c": "x"})
        self.assertEqual(composed(first={"a": "-", "-": "b", "c": "-"}, second={"-": "!", "b": "", "z": "z"}),
                         {"a": "!", "-": "", "c": "!"})
        self.assertEqual(composed({}, {"a": "b"}), {})
        self.refused(BadMap(), composed, {"a": "b", "c": "d"}, {"b": "x"})
        self.refused(BadMap(), composed, {"a": "b"}, {})
        for web in small_webs():
            for found in likenesses(web)[:6]:
                self.assertTrue(is_likeness(web, web, inverse_map(found)))
                self.assertEqual(composed(found, inverse_map(found)), {place: place for place in web.places})
                for more in likenesses(web)[:6]:
                    self.assertIn(composed(found, more), likenesses(web))

    def test_told_dicts_are_new_and_given_ones_stay(self):
        likenesses(PATH)[0]["a"] = "x"
        likenesses(PATH).append("x")
        first_likeness(PATH, PATH)["a"] = "x"
        self.assertEqual(likenesses(PATH), [{place: place for place in "abcd"}, TURN])
        self.assertEqual(first_likeness(PATH, PATH)["a"], "a")
        given, second = dict(TURN), dict(TURN)
        inverse_map(given)["a"] = "x"
        composed(given, second)["a"] = "x"
        leading_likeness(empty_board(PATH), empty_board(PATH))["a"] = "x"
        lead_row(["a"], given).append("x")
        self.assertEqual((given, second), (TURN, TURN))
        self.assertEqual(leading_likeness(empty_board(PATH), empty_board(PATH))["a"], "a")


class TestLed(Case):
    def pairs(self):
        """Boards with webs onto which they are led."""
        drawn = random.Random(3)
        boards = [board for web in (PATH, STAR, ring_web("abcd")) for board in right_boards(web)]
        boards += drawn_boards(grid_web(3, 4), 25, "...ddddl") + drawn_boards(path_web("abcdefghi"), 25, "...dddl")
        for board in boards:
            names = drawn.sample([f"{letter}{k}" for letter in "mnop" for k in range(6)], len(board.web))
            yield (board, *renamed(board.web, names))

    def test_boards_and_what_is_told_of_them(self):
        for board, two, mapping in self.pairs():
            led = lead_board(board, two, mapping)
            self.assertEqual(led, Board(two, led_text(board, two, mapping)))
            for hand in HANDS:
                for tell in (standing_places, sure_places):
                    self.assertEqual(tell(led, hand), sorted(lead_row(tell(board, hand), mapping)))
                self.check_rooms(board, led, hand, mapping)

    def check_rooms(self, board, led, hand, mapping):
        """Rooms, borders, own rooms and held rooms are led."""
        one, two = RoomTable(board, hand), RoomTable(led, hand)
        names = {name: min(mapping[place] for place in one.room_places(name)) for name in one.rooms}
        companies = {name: min(mapping[place] for place in one.company_places(name)) for name in one.companies}
        for room, name in names.items():
            self.assertEqual(two.room_places(name), sorted(mapping[place] for place in one.room_places(room)))
            self.assertEqual(two.border_of(name), sorted(companies[company] for company in one.border_of(room)))
            self.assertEqual(two.own_companies(name), sorted(companies[part] for part in one.own_companies(room)))
        self.assertEqual(held_rooms(led, hand), sorted(names[room] for room in held_rooms(board, hand)))

    def test_boards_that_are_not_right(self):
        for board in all_boards(path_web("abc")):
            led = lead_board(board=board, two=path_web("xyz"), mapping={"a": "z", "b": "y", "c": "x"})
            self.assertEqual(led, Board(path_web("xyz"), board.signs[::-1]))
            self.assertEqual(is_right(led), is_right(board))

    def test_rows(self):
        self.assertEqual(lead_row(row=["a", "b", "a"], mapping=TURN), ["d", "c", "d"])
        self.assertEqual(lead_row([], {}), [])
        self.assertEqual(lead_row(["-", ""], {"-": "x", "": "-"}), ["x", "-"])
        self.refused(NoPlace("-"), lead_row, ["a", "-", "z"], TURN)
        self.refused(NoPlace("z"), lead_row, ["z", "-"], TURN)
        self.refused(NoPlace("A"), lead_row, ["a", "A"], TURN)

    def test_taking_rows_are_led(self):
        told = {True: 0, False: 0}
        for board, two, mapping in self.pairs():
            led = lead_board(board, two, mapping)
            for hand in HANDS:
                for name in set(RoomTable(board, hand).companies):
                    plain = PlainRooms(board, hand)
                    row = taking_row(board, name) if name not in plain.standing() else board.bearing(".")[:2]
                    right = is_taking_row(board, name, row)
                    self.assertIs(is_taking_row(led, mapping[name], lead_row(row, mapping)), right)
                    told[right] += 1
        self.assertGreater(min(told.values()), 30)

    def test_games(self):
        faults = set()
        for board, two, mapping in itertools.islice(self.pairs(), 0, None, 4):
            for first, step in itertools.product(HANDS, (1, 3)):
                game = play_on(Game(board, first), step)
                led = lead_game(game=game, two=two, mapping=mapping)
                deeds = ["-" if deed == "-" else mapping[deed] for deed in game.deeds]
                self.assertEqual((led.first_hand, led.deeds, led.over), (first, deeds, True))
                self.assertEqual(led.first_board, lead_board(board, two, mapping))
                self.assertEqual(takings_of(led), [sorted(lead_row(row, mapping)) for row in takings_of(game)])
                while len(game) > 0:
                    led.undo()
                    game.undo()
                    for place in board.web.places:
                        self.assertEqual(led.fault(mapping[place]), game.fault(place))
                        faults.add(game.fault(place))
        self.assertIn("comes-back", faults)
        self.assertIn("self-taking", faults)

    def test_a_led_game_is_new(self):
        game = Game(empty_board(PATH), "dark")
        game.play("a")
        lead_game(game, PATH, TURN).play("a")
        self.assertEqual(game.deeds, ["a"])
        self.assertEqual(lead_game(game, PATH, TURN).deeds, ["d"])

    def test_bad_maps(self):
        board, game = Board(PATH, "dl.d"), Game(empty_board(PATH), "dark")
        for wrong in ({}, {**TURN, "a": "a"}, {**TURN, "e": "e"}, {"a": "a", "b": "c", "c": "b", "d": "d"}):
            self.refused(BadMap(), lead_board, board, PATH, wrong)
            self.refused(BadMap(), lead_game, game, PATH, wrong)
        self.refused(BadMap(), lead_board, board, STAR, TURN)
        self.refused(BadMap(), lead_game, game, path_web("abcde"), TURN)


class TestPapers(Case):
    def test_led_papers(self):
        seen = 0
        for board, two, mapping in TestLed().pairs():
            led = lead_board(board, two, mapping)
            for hand in HANDS:
                rows = stand_paper(board, hand)
                told = lead_paper(board, hand, rows, two, mapping)
                self.assertIs(is_stand_paper(led, hand, told), True)
                self.assertEqual(told, sorted(self.plain_row(board, hand, row, mapping) for row in rows))
                seen += len(rows)
                self.check_any_rows(board, hand, two, mapping)
        self.assertGreater(seen, 30)

    def plain_row(self, board, hand, row, mapping):
        """A row that is led, by the words of point [94]."""
        plain = PlainRooms(board, hand)
        name = min(mapping[place] for place in plain.companies[row[0]])
        rooms = sorted(min(mapping[place] for place in plain.rooms[room]) for room in row[1:])
        return (name, *rooms)

    def check_any_rows(self, board, hand, two, mapping):
        """Rows that need not be right, with a room twice and with a row several times."""
        table, drawn = RoomTable(board, hand), random.Random(len(board.signs))
        if table.companies:
            rows = [(drawn.choice(table.companies), drawn.choice(table.rooms), drawn.choice(table.rooms))
                    for _ in range(4)]
            rows += [rows[0], (table.companies[0], table.rooms[0], table.rooms[0])]
            self.assertEqual(lead_paper(board, hand, rows, two, mapping),
                             sorted(self.plain_row(board, hand, row, mapping) for row in rows))

    def test_rows_twice_and_rooms_twice(self):
        board = Board(path_web("abcde"), ".d.d.")
        turn = dict(zip("abcde", "edcba"))
        rows = [("d", "c", "e"), ("b", "c", "c"), ("b", "a", "e"), ("d", "c", "e")]
        self.assertEqual(lead_paper(board=board, hand="dark", rows=rows, two=board.web, mapping=turn),
                         [("b", "a", "c"), ("b", "a", "c"), ("d", "a", "e"), ("d", "c", "c")])
        self.assertEqual(rows, [("d", "c", "e"), ("b", "c", "c"), ("b", "a", "e"), ("d", "c", "e")])
        self.assertEqual(lead_paper(board, "light", [], board.web, turn), [])

    def test_the_order_of_the_errors(self):
        right, wrong = Board(PATH, ".d.l"), Board(PATH, "dl..")
        good, bad = [("b", "a", "c")], {**TURN, "a": "a"}
        for board in (right, wrong):
            self.refused(NoHand("x"), lead_paper, board, "x", [("z", "z", "z")], PATH, bad)
        cases = {("a", "z", "y"): "a", ("z", "a", "c"): "z", ("b", "d", "z"): "d", ("b", "a", "b"): "b",
                 ("d", "a", "c"): "d", ("b", "a", ""): "", ("b", "-", "a"): "-"}
        for row, name in cases.items():
            self.refused(NoEntry(name), lead_paper, right, "dark", good + [row, ("y", "y", "y")], PATH, bad)
            self.refused(NoEntry(name), lead_paper, right, "dark", [row], PATH, TURN)
            self.refused(BadMap(), lead_paper, wrong, "dark", [row], PATH, bad)
            self.refused(NotRight("a"), lead_paper, wrong, "dark", [row], PATH, TURN)
        self.refused(BadMap(), lead_paper, right, "dark", good, PATH, bad)
        self.refused(BadMap(), lead_paper, right, "dark", [], STAR, TURN)
        self.refused(NotRight("a"), lead_paper, wrong, "light", [], PATH, TURN)
        self.assertEqual(lead_paper(right, "dark", good, PATH, TURN), [("c", "a", "d")])

    def test_a_name_on_the_new_board(self):
        # The room d-e-f of light becomes the room a-b-c, which has another name than the place given for d.
        board = Board(path_web("abcdef"), "..l.d.")
        turn = dict(zip("abcdef", "fedcba"))
        self.assertEqual(lead_paper(board, "light", [("c", "a", "d")], board.web, turn), [("d", "a", "e")])


class TestOrbits(Case):
    def test_all_orbits(self):
        for web in small_webs():
            maps = plain_likenesses(web, web)
            boards = list(all_boards(web))
            for board in boards if len(web) < 4 else boards[::7]:
                told = sorted({led_text(board, web, found) for found in maps})
                self.assertEqual(orbit_of(board), told)
                self.assertEqual(least_form(board), Board(web, told[0]))
                self.assertEqual(len(maps) % len(told), 0)
                self.assertEqual(len({is_right(Board(web, signs)) for signs in told}), 1)

    def test_counts(self):
        for web in small_webs():
            if len(web) <= 4:
                maps = plain_likenesses(web, web)
                forms = {min(led_text(board, web, found) for found in maps) for board in right_boards(web)}
                self.assertEqual(orbit_count(web), len(forms))
        self.assertEqual(orbit_count(web=path_web("ab")), 3)

    def test_leading_likenesses(self):
        told = {True: 0, False: 0}
        for one, two in ((PATH, PATH), (PATH, path_web("bdac")), (STAR, STAR), (STAR, PATH), (path_web("abc"), PATH)):
            boards = list(all_boards(two))
            for board, goal in itertools.product(list(all_boards(one))[::5], boards[::4]):
                found = [way for way in plain_likenesses(one, two) if led_text(board, two, way) == goal.signs]
                self.assertEqual(leading_likeness(board, goal), found[0] if found else None)
                told[bool(found)] += 1
                if one == two:
                    self.assertEqual(bool(found), least_form(board) == least_form(goal))
        self.assertGreater(min(told.values()), 20)
        self.assertEqual(leading_likeness(one=Board(PATH, "d..."), two=Board(PATH, "...d")), TURN)

    def test_too_many_places(self):
        five, six = Board(path_web("abcde"), "d...."), Board(path_web("abcdef"), "dl....")
        for call in (orbit_of, least_form):
            self.refused(TooMany("places", 5), call, six)
            call(five)
        self.refused(TooMany("places", 5), leading_likeness, six, five)
        self.refused(TooMany("places", 5), leading_likeness, five, six)
        self.assertEqual(leading_likeness(five, five), {place: place for place in "abcde"})
        self.refused(TooMany("places", 4), orbit_count, five.web)
        self.refused(TooMany("places", 4), orbit_count, six.web)

    def test_told_lists_are_new(self):
        board = Board(PATH, "d...")
        orbit_of(board).append("x")
        self.assertEqual(orbit_of(board=board), ["...d", "d..."])
        self.assertEqual(least_form(board=board).signs, "...d")
        self.assertEqual(board.signs, "d...")

    def test_the_mirrored_board(self):
        for board in itertools.islice(all_boards(STAR), 0, None, 3):
            turned = str.maketrans("dl", "ld")
            self.assertEqual(orbit_of(-board), sorted(signs.translate(turned) for signs in orbit_of(board)))
            for hand in HANDS if is_right(board) else ():
                rows = stand_paper(board, hand)
                same = {place: place for place in "abcd"}
                self.assertEqual(lead_paper(-board, other(hand), rows, STAR, same),
                                 lead_paper(board, hand, rows, STAR, same))


if __name__ == "__main__":
    unittest.main()
