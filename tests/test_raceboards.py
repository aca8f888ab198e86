"""Points [82] to [86]: race boards, numbers read off a board, places of race deeds, race games, searched values."""

import itertools
import unittest

from helper import (TWO_COMBS, Case, PlainRooms, drawn_boards, grid_web, path_web, plain_companies, plain_free,
                    plain_near, plain_signs, right_boards, ring_web, tree_web)
from searching import PlainAttack
from tworooms.boards import Board
from tworooms.companies import is_right
from tworooms.errors import BadNumber, NoPlace, NoStone, NotRight
from tworooms.games import Game
from tworooms.raceboards import race_board, race_game, race_numbers, race_place, race_search
from tworooms.races import race_after, race_best, race_deeds, race_line, race_value
from tworooms.rounds import standing
from tworooms.webs import Web

BAD = (True, False, None, -1, 10 ** 19)


def races(most):
    """All races with numbers up to the bound."""
    for own, other_number, shared in itertools.product(range(most + 1), repeat=3):
        if own + shared >= 1 and other_number + shared >= 1:
            yield own, other_number, shared


def plain_kinds(board, one, two):
    """The places of the three kinds by the words of point [83], or None."""
    web, signs, near = board.web, plain_signs(board), plain_near(board.web)
    if signs[one] == signs[two]:
        return None
    hands = {"d": "dark", "l": "light"}
    companies = {sign: plain_companies(web, signs, sign) for sign in "dl"}
    names = {sign: PlainRooms(board, hands[sign]).standing() for sign in "dl"}
    steady = {sign: [part for part in companies[sign] if part[0] in names[sign]] for sign in "dl"}
    mine = next(part for part in companies[signs[one]] if one in part)
    theirs = next(part for part in companies[signs[two]] if two in part)

    def touching(part, sign):
        return [rival for rival in companies[sign] if any(near[place] & set(part) for place in rival)]

    if any(rival != theirs and rival not in steady[signs[two]] for rival in touching(mine, signs[two])):
        return None
    if any(rival != mine and rival not in steady[signs[one]] for rival in touching(theirs, signs[one])):
        return None
    kinds = {"own": [], "other": [], "shared": []}
    for place in sorted(set(plain_free(web, signs, mine)) | set(plain_free(web, signs, theirs))):
        if any(signs[beside] == "." for beside in near[place]):
            return None
        left = [part for part in companies[signs[one]] if near[place] & set(part)]
        right = [part for part in companies[signs[two]] if near[place] & set(part)]
        if left == [mine] and right == [theirs]:
            kinds["shared"].append(place)
        elif left == [mine] and theirs not in right and any(part in steady[signs[two]] for part in right):
            kinds["own"].append(place)
        elif right == [theirs] and mine not in left and any(part in steady[signs[one]] for part in left):
            kinds["other"].append(place)
        else:
            return None
    return kinds


def numbers(kinds):
    return None if kinds is None else tuple(len(kinds[kind]) for kind in ("own", "other", "shared"))


def changed_boards(board):
    """Boards with one tie more or less, or with another sign at one place."""
    web = board.web
    for pair in itertools.combinations(web.places, 2):
        ties = [tie for tie in web.ties if tie != pair]
        if len(ties) == len(web.ties):
            ties.append(pair)
        yield Board(Web(web.places, ties), board.signs)
    for place, sign in itertools.product(web.places, ".dl"):
        if board.sign(place) != sign:
            yield board.put(place, sign)


class TestRaceBoards(Case):
    def test_webs_and_signs(self):
        for race in races(4):
            board = race_board(*race)
            kinds = [("a", race[0], "d", "h"), ("b", race[1], "l", "g"), ("s", race[2], "d", "l")]
            places = ["d", "l", "g", "g1", "g2", "h", "h1", "h2"]
            ties = [("g", "g1"), ("g", "g2"), ("h", "h1"), ("h", "h2")]
            for letter, many, one, two in kinds:
                places += [letter + str(k) for k in range(1, many + 1)]
                ties += [(letter + str(k), stone) for k in range(1, many + 1) for stone in (one, two)]
            self.assertEqual(board.web, Web(places, ties))
            self.assertEqual((board.bearing("d"), board.bearing("l")), (["d", "g"], ["h", "l"]))
            self.assertTrue(is_right(board))
            # The guards stand; the two companies of the race may stand as well.
            self.assertIn("g", standing(board, "dark"))
            self.assertIn("h", standing(board, "light"))
        self.assertEqual(len(race_board(own=4, other=4, shared=4).web), 20)
        self.assertEqual(race_board(1, 0, 1).web.places, ["a1", "d", "g", "g1", "g2", "h", "h1", "h2", "l", "s1"])

    def test_numbers_are_read_back(self):
        for race in races(4):
            own, other_number, shared = race
            board = race_board(*race)
            self.assertEqual(race_numbers(board, "d", "l"), race)
            self.assertEqual(race_numbers(board=board, one="l", two="d"), (other_number, own, shared))
            self.assertEqual(race_numbers(-board, "d", "l"), race)
            for one, two in (("d", "d"), ("d", "g"), ("l", "h"), ("g", "d"), ("h", "h")):
                self.assertIsNone(race_numbers(board, one, two))

    def test_any_place_of_a_company(self):
        board = Board(Web("abcdfg", [("a", "b"), ("b", "c"), ("c", "d"), ("d", "f"), ("b", "g"), ("d", "g")]), "dd.ll.")
        self.assertEqual(race_numbers(board, "a", "d"), (0, 0, 2))
        self.assertEqual(race_numbers(board, "b", "f"), (0, 0, 2))
        self.assertEqual(race_place(board, "b", "f", "share"), "c")

    def test_changed_race_boards(self):
        told = {True: 0, False: 0}
        for race in ((1, 1, 1), (2, 0, 1), (0, 1, 2), (1, 2, 0), (0, 0, 1)):
            for board in changed_boards(race_board(*race)):
                if is_right(board):
                    for one, two in (("d", "l"), ("l", "d"), ("d", "h"), ("g", "l"), ("g", "h")):
                        if "." not in (board.sign(one), board.sign(two)):
                            kinds = plain_kinds(board, one, two)
                            self.assertEqual(race_numbers(board, one, two), numbers(kinds))
                            told[kinds is None] += 1
        self.assertGreater(min(told.values()), 100)

    def test_a_tie_more_a_tie_less_another_sign(self):
        board = race_board(1, 1, 1)
        places, ties = board.web.places, board.web.ties
        for more in (("a1", "s1"), ("a1", "h1"), ("d", "g1"), ("a1", "g"), ("h", "s1"), ("b1", "d")):
            self.assertIsNone(race_numbers(Board(Web(places, ties + [more]), board.signs), "d", "l"))
        for less in (("a1", "h"), ("b1", "g"), ("h", "h1")):
            web = Web(places, [tie for tie in ties if tie != less])
            self.assertIsNone(race_numbers(Board(web, board.signs), "d", "l"))
        # A tie less between a shared place and one company makes it a place of no kind.
        web = Web(places, [tie for tie in ties if tie != ("d", "s1")])
        self.assertIsNone(race_numbers(Board(web, board.signs), "d", "l"))
        # With a light stone on h1 the guard h has one room less; without the guard nothing stands there.
        self.assertIsNone(race_numbers(board.put("h1", "l"), "d", "l"))
        self.assertIsNone(race_numbers(board.put("h", "."), "d", "l"))
        self.assertEqual(race_numbers(board.put("a1", "l"), "d", "l"), (0, 1, 1))
        # A place that touches neither company does not matter, even between other free places.
        web = Web(places + ["x", "y"], ties + [("x", "y"), ("g", "x")])
        self.assertEqual(race_numbers(Board(web, board.signs + ".."), "d", "l"), (1, 1, 1))
        # A standing company of the other hand may touch a company, and a place of the kind own as many as it likes.
        web = Web(places, ties + [("d", "h")])
        self.assertEqual(race_numbers(Board(web, board.signs), "d", "l"), (1, 1, 1))

    def test_companies_that_touch(self):
        # A light stone on x touches d; it stands only with rooms of its own.
        board = race_board(1, 1, 1)
        places, ties = board.web.places, board.web.ties
        web = Web(places + ["x", "x1"], ties + [("d", "x"), ("x", "x1")])
        self.assertIsNone(race_numbers(Board(web, board.signs + "l."), "d", "l"))
        web = Web(places + ["x", "x1", "x2"], ties + [("d", "x"), ("x", "x1"), ("x", "x2")])
        self.assertEqual(race_numbers(Board(web, board.signs + "l.."), "d", "l"), (1, 1, 1))
        web = Web(places + ["x", "x1"], ties + [("l", "x"), ("x", "x1")])
        self.assertIsNone(race_numbers(Board(web, board.signs + "d."), "d", "l"))
        # A free place of the kind own may touch a further light company that does not stand.
        web = Web(places + ["x", "x1"], ties + [("a1", "x"), ("x", "x1")])
        self.assertEqual(race_numbers(Board(web, board.signs + "l."), "d", "l"), (1, 1, 1))
        self.assertIsNone(race_numbers(Board(web, board.signs + "d."), "d", "l"))

    def test_all_boards_of_small_webs(self):
        told = {True: 0, False: 0}
        webs = [path_web("abc"), path_web("abcd"), ring_web("abcd"), path_web("abcde"), ring_web("abcde")]
        boards = itertools.chain(*[right_boards(web) for web in webs], drawn_boards(TWO_COMBS, 60, "..dddlll"),
                                 drawn_boards(tree_web(15), 60, "..dddlll"), drawn_boards(grid_web(3, 4), 60, ".ddll"))
        for board in boards:
            for one, two in itertools.product(board.bearing("d"), board.bearing("l")):
                kinds = plain_kinds(board, one, two)
                told[kinds is None] += 1
                self.assertEqual(race_numbers(board, one, two), numbers(kinds))
                self.assertEqual(race_numbers(board, two, one), numbers(plain_kinds(board, two, one)))
        self.assertGreater(min(told.values()), 20)


class TestPlaces(Case):
    def test_all_deeds_on_race_boards(self):
        for race in races(3):
            board = race_board(*race)
            for deed, place in (("fill", "b1"), ("share", "s1"), ("own", "a1"), ("pass", "-")):
                told = place if deed in race_deeds(*race) else None
                self.assertEqual(race_place(board, "d", "l", deed), told)
            turned = (race[1], race[0], race[2])
            for deed, place in (("fill", "a1"), ("share", "s1"), ("own", "b1"), ("pass", "-")):
                told = place if deed in race_deeds(*turned) else None
                self.assertEqual(race_place(board, "l", "d", deed), told)
            for deed in ("", "-", "a1", "Fill", "pass "):
                self.assertIsNone(race_place(board, "d", "l", deed))

    def test_the_least_place_of_the_kind(self):
        board = race_board(3, 3, 3).put("b1", "d").put("s1", "l").put("a1", "l")
        self.assertEqual(race_numbers(board, "d", "l"), numbers(plain_kinds(board, "d", "l")))
        board = race_board(2, 2, 2)
        for deed, place in (("fill", "b1"), ("share", "s1"), ("own", "a1")):
            self.assertEqual(race_place(board=board, one="d", two="l", deed=deed), place)
        names = {place: place for place in board.web.places}
        names.update({"a1": "z1", "b1": "z2", "s1": "z3"})
        web = Web(list(names.values()), [(names[one], names[two]) for one, two in board.web.ties])
        led = Board(web, "".join({"d": "d", "g": "d", "l": "l", "h": "l"}.get(place, ".") for place in web.places))
        for deed, place in (("fill", "b2"), ("share", "s2"), ("own", "a2")):
            self.assertEqual(race_place(led, "d", "l", deed), place)

    def test_no_race(self):
        board = Board(path_web("abcdef"), "d....l")
        for deed in ("fill", "share", "own", "pass", "-", "x"):
            self.assertIsNone(race_place(board, "a", "f", deed))
            self.assertIsNone(race_place(race_board(1, 1, 1), "d", "g", deed))
            self.assertIsNone(race_place(race_board(1, 1, 1), "d", "d", deed))


class TestGames(Case):
    def test_all_race_games(self):
        for race in races(4):
            game, result = race_game(*race)
            self.assertEqual(result, race_value(*race))
            line, told = race_line(*race)
            self.assertEqual((len(game), result), (len(line), told))
            self.check_game(game, race, line, result)

    def check_game(self, game, race, line, result):
        """Each deed is that of the line, on the least place of its kind, and the numbers agree all the way."""
        again, now, sides = Game(race_board(*race), "dark"), race, ("d", "l")
        after_pass = False
        for deed, race_deed in zip(game.deeds, line):
            self.assertEqual(race_numbers(again.board, *sides), now)
            self.assertEqual(race_deed, race_best(*now, after_pass=after_pass))
            self.assertEqual(deed, race_place(again.board, *sides, race_deed))
            again.play(deed)
            now, sides, after_pass = race_after(*now, race_deed), sides[::-1], race_deed == "pass"
        self.assertEqual(again, game)
        gone = {"wins": (True, False), "loses": (False, True), "peace": (False, False)}[result]
        self.assertEqual((game.board.sign("l") != "l", game.board.sign("d") != "d"), gone)
        self.assertIs(game.over, result == "peace")

    def test_each_result(self):
        game, result = race_game(own=1, other=1, shared=0)
        self.assertEqual((game.deeds, result), (["b1"], "wins"))
        game.undo()
        self.assertEqual(race_game(1, 1, 0)[0].deeds, ["b1"])
        game, result = race_game(0, 1, 1)
        self.assertEqual((game.deeds, result, game.board.sign("d")), (["b1", "s1"], "loses", "."))
        game, result = race_game(0, 0, 2)
        self.assertEqual((game.deeds, result), (["-", "-"], "peace"))

    def test_searched_values(self):
        told = {"open": 0, "wins": 0, "loses": 0, "peace": 0}
        for race in races(2):
            for budget in (400, 100, 20, 3, 1):
                value = race_search(*race, budget=budget)
                told[value] += 1
                self.assertIn(value, ("open", race_value(*race)))
            self.assertEqual(race_search(*race), race_search(*race, budget=400))
        self.assertGreater(min(told.values()), 2)

    def test_searches_step_by_step(self):
        for race in ((0, 0, 1), (0, 0, 2), (1, 1, 0), (0, 1, 1), (1, 0, 1), (2, 1, 0), (1, 2, 0), (0, 1, 2)):
            own, other_number, shared = race
            board = race_board(*race)
            one, two = PlainAttack(board, "l", "d"), PlainAttack(board, "d", "l")
            first = one.answer("attack", "dark", 2 * (other_number + shared) - 1, 400)
            second = two.answer("attack", "dark", 2 * (own + shared), 400)
            for budget in sorted({1, first[2] - 1, first[2], second[2] - 1, second[2], 400} - {0}):
                if budget < first[2]:
                    told = "open"
                elif first[0] == "taken":
                    told = "wins"
                elif budget < second[2]:
                    told = "open"
                else:
                    told = "loses" if second[0] == "taken" else "peace"
                self.assertEqual(race_search(*race, budget=budget), told)


class TestErrors(Case):
    def test_numbers(self):
        for call, most in ((race_board, 4), (race_game, 4), (race_search, 2)):
            for bad in BAD + (most + 1,):
                self.refused(BadNumber("own", bad), call, bad, bad, bad)
                self.refused(BadNumber("other", bad), call, 0, bad, bad)
                self.refused(BadNumber("shared", bad), call, 0, 0, bad)
            self.refused(BadNumber("own", 0), call, 0, 0, 0)
            self.refused(BadNumber("own", 0), call, 0, most, 0)
            self.refused(BadNumber("other", 0), call, most, 0, 0)

    def test_the_budget_is_looked_at_among_the_bounds(self):
        for bad in (True, False, None, 0, -1, 401, 10 ** 19):
            self.refused(BadNumber("budget", bad), race_search, 0, 0, 0, budget=bad)
            self.refused(BadNumber("budget", bad), race_search, 1, 1, 1, budget=bad)
            self.refused(BadNumber("own", 3), race_search, 3, 0, 0, budget=bad)
            self.refused(BadNumber("shared", -1), race_search, 2, 2, -1, budget=bad)
        self.assertEqual(race_search(own=0, other=0, shared=1, budget=400), "wins")

    def test_places_boards_and_stones(self):
        path = path_web("abcd")
        right, wrong = Board(path, "d..l"), Board(path, "dlll")
        for call in (race_numbers, lambda *given: race_place(*given, "x")):
            self.refused(NoPlace("z"), call, wrong, "z", "y")
            self.refused(NoPlace("y"), call, wrong, "a", "y")
            self.refused(NoPlace("-"), call, right, "b", "-")
            self.refused(NotRight("a"), call, wrong, "b", "b")
            self.refused(NotRight("a"), call, wrong, "a", "b")
            self.refused(NoStone("b"), call, right, "b", "c")
            self.refused(NoStone("c"), call, right, "a", "c")
            self.refused(NoStone("b"), call, right, "b", "b")


if __name__ == "__main__":
    unittest.main()
