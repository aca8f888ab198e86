"""Points [99] to [101]: candidates, the player, the sure player and play-outs."""

import itertools
import unittest

from helper import (TWO_COMBS, Case, PlainGame, PlainRooms, drawn_boards, grid_web, other, path_web, plain_companies,
                    plain_free, plain_near, plain_sure, right_boards, ring_web, tree_web)
from tworooms.boards import Board, empty_board
from tworooms.counts import sure_places
from tworooms.errors import BadNumber, GameOver, NoEntry
from tworooms.games import Game
from tworooms.joining import mirrored_game
from tworooms.player import candidates, choose, choose_sure, play_out
from tworooms.records import boards_of, replay
from tworooms.webs import Web

HANDS = ("dark", "light")
LONG = ring_web([f"p{k}" for k in range(10, 22)])


def plain_game(game):
    """The game, played the plain way."""
    plain = PlainGame(game.first_board, game.first_hand)
    for deed in game.deeds:
        plain = plain.after(deed)
    return plain


def sure_for(plain, signs, hand):
    """The sure places of the hand on the board with these signs."""
    rooms = PlainRooms(Board(plain.web, "".join(signs.values())), hand)
    return plain_sure(rooms, rooms.standing())[0]


def plain_candidates(plain):
    """The candidates, by the words of point [99]."""
    sure = sure_for(plain, plain.signs, "dark") + sure_for(plain, plain.signs, "light")
    return [place for place in plain.open_deeds() if place != "-" and place not in sure]


def company_at(web, signs, place):
    return next(part for part in plain_companies(web, signs, signs[place]) if place in part)


def touching(plain, hand, place):
    """The companies of the hand that the place touches on the present board."""
    near = plain_near(plain.web)[place]
    return [part for part in plain_companies(plain.web, plain.signs, hand[0]) if near & set(part)]


def plain_choice(plain):
    """The number of the case of point [99] and its deed."""
    hand, web = plain.hand(), plain.web
    looks = {place: plain.look(place) for place in plain_candidates(plain)}
    takings = {place: len(taken) for place, (_, _, taken) in looks.items() if taken}
    if takings:
        return 1, min(place for place in takings if takings[place] == max(takings.values()))
    roomy = [place for place, (_, after, _) in looks.items()
             if len(plain_free(web, after, company_at(web, after, place))) >= 2]
    saving = [place for place in roomy
              if any(plain_free(web, plain.signs, part) == [place] for part in touching(plain, hand, place))]
    if saving:
        return 2, saving[0]
    steady = PlainRooms(Board(web, "".join(plain.signs.values())), other(hand)).standing()
    counts = {}
    for place in roomy:
        weak = [part for part in touching(plain, other(hand), place) if part[0] not in steady]
        if weak:
            counts[place] = min(len(plain_free(web, plain.signs, part)) for part in weak)
    if counts:
        return 3, min(place for place in counts if counts[place] == min(counts.values()))
    return (4, roomy[0]) if roomy else (5, "-")


def plain_sure_choice(plain):
    """The deed of the sure player, by the words of point [100]."""
    best = None
    for deed in plain_candidates(plain) + ["-"]:
        signs = plain.look(deed)[1]
        gain = len(sure_for(plain, signs, plain.hand())) - len(sure_for(plain, signs, other(plain.hand())))
        if best is None or gain > best[0]:
            best = gain, deed
    return best[1]


def positions():
    """Games of several kinds, most of them not over."""
    for web in (path_web("abc"), path_web("abcd"), ring_web("abcd")):
        for board in right_boards(web):
            yield Game(board, "dark")
    boards = drawn_boards(grid_web(3, 4), 25, "...ddll") + drawn_boards(path_web("abcdefghij"), 25, "..dl")
    boards += drawn_boards(tree_web(15), 20, "...ddll") + drawn_boards(TWO_COMBS, 20, "...ddll")
    boards += [empty_board(grid_web(3, 4)), empty_board(TWO_COMBS)]
    for board, first in itertools.product(boards, HANDS):
        game = Game(board, first)
        for step in (0, 1, 3, 2):
            yield game.twin()
            deeds = game.open_deeds()
            if deeds:
                game.play(deeds[step % len(deeds)])


class TestChoices(Case):
    def test_all_choices(self):
        cases = {}
        for game in positions():
            plain = plain_game(game)
            if plain.over():
                self.assertEqual(candidates(game), [])
                continue
            self.assertEqual(candidates(game), plain_candidates(plain))
            case, deed = plain_choice(plain)
            self.assertEqual(choose(game), deed, (game.board.signs, case))
            cases[case] = cases.get(case, 0) + 1
        self.assertEqual(sorted(cases), [1, 2, 3, 4, 5])
        self.assertGreater(min(cases.values()), 10, cases)

    def test_all_choices_of_the_sure_player(self):
        told = {True: 0, False: 0}
        for game in itertools.islice(positions(), 0, None, 2):
            if not game.over:
                deed = plain_sure_choice(plain_game(game))
                self.assertEqual(choose_sure(game), deed)
                told[deed == "-"] += 1
        self.assertGreater(min(told.values()), 10, told)

    def test_taking_the_most_stones(self):
        # On two paths light on d takes one stone and on i two; each other laying takes none.
        web = Web("abcdefghi", list(zip("abc", "bcd")) + list(zip("efgh", "fghi")))
        game = Game(Board(web, ".ld..ldd."), "light")
        self.assertEqual([len(plain_game(game).look(place)[2]) for place in "di"], [1, 2])
        self.assertEqual((candidates(game), choose(game=game)), (["d", "i"], "i"))
        # Of two that take as many the least one is chosen, also if its own company has one free neighbour then.
        web = Web("abcdefgh", list(zip("abc", "bcd")) + list(zip("efg", "fgh")))
        game = Game(Board(web, ".ld..ld."), "light")
        self.assertEqual((plain_choice(plain_game(game)), choose(game)), ((1, "d"), "d"))
        game.play("d")
        self.assertEqual(game.board.signs, ".l.l.ld.")

    def test_a_company_with_one_free_neighbour_left(self):
        ties = [("a", "b"), ("b", "c"), ("c", "d"), ("d", "e"), ("a", "g"), ("a", "h"), ("g", "i"), ("h", "i")]
        game = Game(Board(Web("abcdefghi", ties + [("c", "f")]), "ld......."), "dark")
        self.assertEqual((plain_choice(plain_game(game)), choose(game)), ((2, "c"), "c"))
        # Without the place f the laying would leave one free neighbour alone, so it saves nothing.
        game = Game(Board(Web("abcdeghi", ties), "ld......"), "dark")
        self.assertEqual((plain_choice(plain_game(game)), choose(game)), ((4, "d"), "d"))

    def test_ties_of_pressing(self):
        star = Web("abcdefgh", [("a", "d"), ("b", "d"), ("c", "d"), ("e", "f"), ("e", "g"), ("a", "h"), ("c", "h"),
                                ("f", "h"), ("g", "h")])
        for signs in ("...ll...", "...l....", "....l..."):
            game = Game(Board(star, signs), "dark")
            self.assertEqual(choose(game), plain_choice(plain_game(game))[1])

    def test_the_pass(self):
        # Dark has two rooms and light could lay only on sure places of dark.
        game = Game(Board(path_web("abc"), ".d."), "light")
        self.assertEqual((candidates(game), choose(game), choose_sure(game)), ([], "-", "-"))
        game = Game(Board(path_web("abc"), ".d."), "dark")
        self.assertEqual((candidates(game), choose(game), choose_sure(game)), ([], "-", "-"))
        # A candidate that would leave its company one free neighbour is not chosen by the player.
        game = Game(Board(path_web("ab"), ".."), "dark")
        self.assertEqual((candidates(game), choose(game), choose_sure(game)), (["a", "b"], "-", "a"))

    def test_the_first_of_several_best_choices(self):
        game = Game(empty_board(path_web("abcde")), "dark")
        self.assertEqual((choose_sure(game=game), plain_sure_choice(plain_game(game))), ("a", "a"))
        game = Game(empty_board(path_web("abc")), "light")
        self.assertEqual(choose_sure(game), "b")

    def test_a_laying_that_comes_back_is_no_candidate(self):
        game = replay(Board(Web("abcd", [("a", "b"), ("b", "c"), ("c", "d"), ("b", "d")]), "d.l."), "dark", ["b"])
        for deed in ("c", "a", "b"):
            if game.fault(deed) is None:
                game.play(deed)
        self.assertEqual(candidates(game), plain_candidates(plain_game(game)))

    def test_a_game_that_is_over(self):
        game = replay(empty_board(path_web("abc")), "dark", ["-", "-"])
        self.assertEqual(candidates(game=game), [])
        for call in (choose, choose_sure):
            self.refused(GameOver(), call, game)
        game.undo()
        self.assertEqual((candidates(game), choose(game)), (["a", "b", "c"], "b"))

    def test_the_game_stays(self):
        game = replay(empty_board(grid_web(3, 3)), "dark", ["a1", "b2"])
        again = game.twin()
        choose(game)
        choose_sure(game)
        candidates(game).append("x")
        play_out(game, most=1).play("-")
        play_out(game, style="sure")
        self.assertEqual(game, again)
        self.assertNotIn("x", candidates(game))

    def test_the_mirrored_game(self):
        for game in itertools.islice(positions(), 0, None, 5):
            if not game.over:
                turned = mirrored_game(game)
                self.assertEqual(candidates(turned), candidates(game))
                self.assertEqual((choose(turned), choose_sure(turned)), (choose(game), choose_sure(game)))


class TestPlayOuts(Case):
    def test_deed_by_deed(self):
        for game in itertools.islice(positions(), 0, None, 7):
            for style, chooser in (("plain", choose), ("sure", choose_sure)):
                for most in (0, 1, 2, 7):
                    told = game.twin()
                    for _ in range(most):
                        if not told.over:
                            told.play(chooser(told))
                    self.assertEqual(play_out(game, most=most, style=style), told)

    def test_no_hand_loses_a_sure_place(self):
        seen = 0
        games = [Game(board, "dark") for board in drawn_boards(TWO_COMBS, 8, "....ddll")]
        games += [Game(empty_board(web), "light") for web in (grid_web(3, 4), TWO_COMBS, LONG, path_web("abcdefg"))]
        for game, style in itertools.product(games, ("plain", "sure")):
            told = play_out(game, most=60, style=style)
            self.assertTrue(told.over)
            for hand in HANDS:
                rows = [set(sure_places(board, hand)) for board in boards_of(told)]
                for before, after in zip(rows, rows[1:]):
                    self.assertLessEqual(before, after)
                seen += len(rows[-1])
        self.assertGreater(seen, 50)

    def test_defaults(self):
        game = Game(empty_board(LONG), "dark")
        self.assertEqual(play_out(game), play_out(game=game, most=20, style="plain"))
        board = empty_board(grid_web(4, 5))
        self.assertEqual(len(play_out(Game(board, "dark"))), 20)
        self.assertGreater(len(play_out(Game(board, "dark"), most=60)), 20)

    def test_a_game_near_its_end(self):
        # Dark and light lay on and take each other back on two ends of a web while nobody passes twice.
        game = Game(empty_board(grid_web(3, 3)), "dark")
        while len(game) < 58:
            deeds = game.open_deeds()
            game.play(deeds[0] if len(deeds) > 1 else "-")
            if game.over:
                break
        for _ in range(3):
            told = play_out(game, most=60)
            self.assertTrue(told.over)
            self.assertLessEqual(len(told), 60)
            self.assertEqual(told.deeds[:len(game)], game.deeds)
            game.undo()

    def test_sixty_deeds(self):
        game = Game(empty_board(TWO_COMBS), "dark")
        step = 0
        while len(game) < 59:
            deeds = game.open_deeds()
            if len(deeds) == 1 and game.deeds[-1:] == ["-"]:
                # Two passes would end the game; another way is tried from an earlier deed on.
                step += 1
                for _ in range(9):
                    game.undo()
                continue
            game.play(deeds[(len(game) * step) % max(len(deeds) - 1, 1)])
        self.assertFalse(game.over)
        for style in ("plain", "sure"):
            told = play_out(game, most=60, style=style)
            self.assertEqual((len(told), told.over), (60, True))
            self.assertEqual(play_out(told, most=60, style=style), told)
            self.assertEqual(play_out(game, most=0, style=style), game)

    def test_a_game_that_is_over_and_no_deeds(self):
        game = replay(empty_board(path_web("abc")), "dark", ["-", "-"])
        for style, most in itertools.product(("plain", "sure"), (0, 1, 60)):
            told = play_out(game, most=most, style=style)
            self.assertEqual(told, game)
            told.undo()
            self.assertEqual(len(game), 2)

    def test_the_order_of_the_errors(self):
        for game in (Game(empty_board(path_web("abc")), "dark"), replay(empty_board(path_web("ab")), "dark", "--")):
            for bad in (True, False, None, -1, 61, 10 ** 19):
                self.refused(BadNumber("most", bad), play_out, game, most=bad)
                self.refused(BadNumber("most", bad), play_out, game, most=bad, style="x")
            for style in ("x", "", "Plain", "sure "):
                self.refused(NoEntry(style), play_out, game, style=style)
                self.refused(NoEntry(style), play_out, game, most=0, style=style)


if __name__ == "__main__":
    unittest.main()
