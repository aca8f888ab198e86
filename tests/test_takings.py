"""Points [44] to [51]: rows that take a company, the main rule, reached boards, least rows and decisions."""

import itertools
import unittest

from helper import (Case, PlainRooms, boards_to_compare, drawn_boards, grid_web, other, path_web, plain_free, plain_lay,
                    plain_reached, plain_signs, right_boards, ring_web, tree_web)
from tworooms.boards import Board, empty_board
from tworooms.companies import company_names, company_of, name_of
from tworooms.errors import NoHand, NoPlace, NoStone, NotRight, Stands, TooMany
from tworooms.games import Game
from tworooms.laying import lay, lay_row
from tworooms.papers import is_paper_for, narrow_paper, stand_paper
from tworooms.rounds import standing, stands
from tworooms.takings import (decide, is_decision, is_taking_row, least_taking, reached_boards, taking_all, taking_game,
                              taking_row, taking_steps)
from tworooms.webs import Web

HANDS = ("dark", "light")
FOUR = path_web("abcd")
FIVE = path_web("abcde")
FALLS = Board(FOUR, ".d..")
STANDS = Board(FOUR, ".d.l")
WRONG = Board(FOUR, "dl.d")
# b goes out behind d and f; f keeps the room e, d the room c and b the room a.
LADDER = Board(path_web("abcdefghi"), ".d.d.d...")


def plain_steps(board, hand, target):
    """The steps of point [46], or those of point [48] if the target is None."""
    plain, signs, steps = PlainRooms(board, hand), plain_signs(board), []
    for name, room in plain.kept().items():
        if signs[name] != hand[0]:
            continue
        free, row = plain_free(board.web, signs, plain.companies[name]), []
        steps.append((name, room, row))
        for place in sorted(free, key=lambda place: (place in plain.rooms.get(room, []), place)):
            fault, signs, _, _ = plain_lay(board.web, signs, other(hand)[0], place)
            assert fault is None
            row.append(place)
            if target is not None and signs[target] != hand[0]:
                return steps
    return steps


def falling(board):
    """Each last place of a company that does not stand, with its hand."""
    for hand in HANDS:
        for name in company_names(board, hand):
            if not stands(board, name):
                yield company_of(board, name)[-1], hand


class TestSteps(Case):
    def test_the_document_examples(self):
        self.assertEqual(taking_steps(FALLS, "b"), [("b", "a", ["c", "a"])])
        self.assertEqual(decide(STANDS, "b"), ("stands", [("b", "a", "c")]))

    def test_all_steps_are_as_the_point_says(self):
        many = [0] * 9
        for board in boards_to_compare():
            for place, hand in falling(board):
                steps = taking_steps(board, place)
                self.assertEqual(steps, plain_steps(board, hand, place))
                many[len(steps)] += 1
                row = taking_row(board, place)
                self.assertEqual(row, [laying for step in steps for laying in step[2]])
                self.assertEqual(len(set(row)), len(row))
                self.assertEqual({board.sign(laying) for laying in row}, {"."})
                self.assertIs(is_taking_row(board, place, row), True)
                self.assertIs(is_taking_row(board, place, row[:-1]), False)
        self.assertGreater(min(many[1:4]), 5)

    def test_the_main_rule(self):
        webs = [path_web("abcd"), ring_web("abcde"), Web("abcd", [("a", "b"), ("a", "c"), ("a", "d"), ("b", "c")])]
        for board in itertools.chain.from_iterable(right_boards(web) for web in webs):
            for hand in HANDS:
                reached = plain_reached(board, hand)
                for name in company_names(board, hand):
                    taken = [dict(zip(board.web.places, signs))[name] != hand[0] for signs in reached]
                    self.assertIs(stands(board, name), not any(taken))
                    if any(taken):
                        self.check_row(board, name, hand, taking_row(board, name))

    def check_row(self, board, name, hand, row):
        now = board
        for place in row:
            self.assertEqual(now.hand_at(name), hand)
            now, _ = lay(now, other(hand), place)
        self.assertNotEqual(now.hand_at(name), hand)
        self.assertEqual(lay_row(board, other(hand), row), now)

    def test_taking_games(self):
        for board in boards_to_compare():
            for place, hand in falling(board):
                row, game = taking_row(board, place), taking_game(board, place)
                self.assertEqual((game.first_board, game.first_hand), (board, other(hand)))
                self.assertEqual(game.deeds, sum([[laying, "-"] for laying in row], [])[:-1])
                self.assertNotEqual(game.board.hand_at(place), hand)
                game.undo()
                self.assertEqual(game.board.hand_at(place), hand)
        self.assertEqual(taking_game(board=FALLS, place="b").deeds, ["c", "-", "a"])

    def test_the_ladder(self):
        self.assertEqual(taking_steps(board=LADDER, place="b"),
                         [("f", "e", ["g", "e"]), ("d", "c", ["c"]), ("b", "a", ["a"])])
        self.assertEqual(taking_row(board=LADDER, place="d"), ["g", "e", "c"])
        self.assertEqual(taking_steps(LADDER, "f"), [("f", "e", ["g", "e"])])

    def test_no_kept_room(self):
        self.assertEqual(taking_steps(Board(FIVE, "..d.."), "c"), [("c", None, ["b", "d"])])

    def test_a_company_that_was_taken_in_an_earlier_turn_has_no_step(self):
        # Both c and e go out in the first round, and the laying on d takes both at once.
        board = Board(path_web("abcdefg"), ".ld.dl.")
        self.assertEqual(taking_steps(board, "c"), [("c", "d", ["d"])])
        self.assertEqual(taking_steps(board, "e"), [("c", "d", ["d"])])
        self.assertEqual(taking_all(board, "dark"), ["d"])
        star = Board(Web("abcde", [("a", "e"), ("b", "e"), ("c", "e"), ("d", "e")]), "dd...")
        self.assertEqual(taking_steps(star, "a"), [("a", None, ["e"])])
        self.assertEqual(taking_steps(star, "b"), [("a", None, ["e"])])

    def test_the_last_step_is_cut_at_the_laying_that_takes_the_company(self):
        found = 0
        for board in boards_to_compare():
            for place, hand in falling(board):
                company, _, row = taking_steps(board, place)[-1]
                if company != name_of(board, place):
                    whole = [step for step in plain_steps(board, hand, None) if step[0] == company][0][2]
                    found += len(row) < len(whole)
        self.assertGreater(found, 0)

    def test_a_cut_step(self):
        # b goes out first; the first laying of its turn, on c, takes d.
        board = Board(Web("abcdefg", [("a", "b"), ("b", "c"), ("c", "d"), ("b", "f")]), ".d.d...")
        self.assertEqual(taking_steps(board, "d"), plain_steps(board, "dark", "d"))
        self.assertEqual(taking_steps(board, "d")[-1][2], ["c"])

    def test_the_row_that_takes_all(self):
        for board in boards_to_compare():
            for hand in HANDS:
                row = taking_all(board, hand)
                self.assertEqual(row, [place for step in plain_steps(board, hand, None) for place in step[2]])
                after = lay_row(board, other(hand), row)
                self.assertEqual(company_names(after, hand), standing(board, hand))
                for name in standing(board, hand):
                    self.assertEqual(company_of(after, name), company_of(board, name))

    def test_nothing_to_take(self):
        self.assertEqual(taking_all(board=STANDS, hand="dark"), [])
        self.assertEqual(taking_all(STANDS, "light"), ["c"])
        self.assertEqual(taking_all(empty_board(FOUR), "dark"), [])

    def test_a_standing_company(self):
        board = Board(FIVE, ".dd.l")
        for call in (taking_steps, taking_row, taking_game):
            self.refused(Stands("c"), call, board, "c")
            self.refused(Stands("b"), call, board, "b")


class TestGivenRows(Case):
    def test_all_short_rows(self):
        for board in itertools.chain(right_boards(path_web("abc")), right_boards(path_web("abcd"))):
            for name in company_names(board, "light"):
                for many in range(4):
                    for row in itertools.product(board.web.places, repeat=many):
                        self.assertIs(is_taking_row(board, name, list(row)), self.plain_takes(board, name, row))

    def plain_takes(self, board, name, row):
        signs = plain_signs(board)
        for place in row:
            fault, signs, _, _ = plain_lay(board.web, signs, "d", place)
            if fault is not None:
                return False
        return signs[name] != "l"

    def test_each_way_of_being_wrong(self):
        self.assertIs(is_taking_row(board=FALLS, place="b", row=["c", "a"]), True)
        for row in ([], ["c"], ["a", "c"], ["z"], ["c", "z", "a"], ["c", "a", "z"], ["c", "a", ""], ["c", "-", "a"],
                    ["b"], ["c", "b"], ["c", "c", "a"], ["c", "a", "a"]):
            self.assertIs(is_taking_row(FALLS, "b", row), False)

    def test_layings_behind_the_one_that_takes(self):
        self.assertIs(is_taking_row(FALLS, "b", ["c", "a", "b"]), True)
        self.assertIs(is_taking_row(FALLS, "b", ["c", "a", "b", "d"]), False)
        self.assertIs(is_taking_row(FALLS, "b", ["d", "c", "a"]), False)
        self.assertIs(is_taking_row(Board(FIVE, ".d..."), "b", ["d", "c", "a"]), True)

    def test_any_place_of_the_company(self):
        board = Board(FIVE, ".dd..")
        self.assertIs(is_taking_row(board, "c", ["d", "a"]), True)
        self.assertIs(is_taking_row(board, "b", ["d", "a"]), True)
        self.assertIs(is_taking_row(board, "c", ["a"]), False)

    def test_the_row_stays(self):
        row = ["c", "a"]
        is_taking_row(FALLS, "b", row)
        is_decision(FALLS, "b", "falls", row)
        self.assertEqual(row, ["c", "a"])


# The layings of light lead to exactly 401 boards.
WEB_401 = Web("abcdefghij", [("a", "b"), ("b", "c"), ("a", "d"), ("a", "e"), ("e", "f"), ("d", "g"), ("a", "h"),
                             ("g", "i"), ("i", "j"), ("d", "i")])


def board_of_400(more):
    """A board with 2 * 2 * 2 * 2 * 5 * 5 reached boards, for each further pair twice as many."""
    pairs = [("p" + str(k), "q" + str(k)) for k in range(4 + more)]
    threes = [(letter + "1", letter + "2", letter + "3") for letter in "ab"]
    ties = pairs + [tie for one, two, three in threes for tie in ((one, two), (two, three))]
    places = [place for row in pairs + threes for place in row]
    stones = [row[0] for row in pairs + threes]
    return Board(Web(places, ties), "".join("d" if place in stones else "." for place in sorted(places)))


class TestReached(Case):
    def test_all_reached_boards_and_least_rows(self):
        boards = [board for board in boards_to_compare() if len(board.web) < 10]
        for board in boards[::2] + drawn_boards(tree_web(8), 10, ".....ddl"):
            for hand in HANDS:
                reached = plain_reached(board, hand)
                self.assertEqual(reached_boards(board, hand), sorted(reached))
                for name in company_names(board, hand):
                    self.check_least(board, hand, company_of(board, name)[-1], reached)
                fewest = min(signs.count(hand[0]) for signs in reached)
                self.assertEqual(fewest, sum(len(company_of(board, name)) for name in standing(board, hand)))

    def check_least(self, board, hand, place, reached):
        at = board.web.places.index(place)
        rows = [(len(row), row) for signs, row in reached.items() if signs[at] != hand[0]]
        least = least_taking(board, place)
        self.assertEqual(least, list(min(rows)[1]) if rows else None)
        self.assertIs(least is None, stands(board, place))
        if least is not None:
            self.assertIs(is_taking_row(board, place, least), True)
            self.assertLessEqual(len(least), len(taking_row(board, place)))

    def test_the_most_boards(self):
        board, twice = board_of_400(0), board_of_400(1)
        self.assertEqual(len(reached_boards(board=board, hand="dark")), 400)
        self.assertEqual(reached_boards(board, "dark"), sorted(plain_reached(board, "dark")))
        self.assertEqual(least_taking(board=board, place="p0"), ["q0"])
        self.refused(TooMany("boards", 400), reached_boards, twice, "dark")
        self.refused(TooMany("boards", 400), least_taking, twice, "p0")
        self.assertEqual(len(plain_reached(Board(WEB_401, "...d.d...."), "dark")), 401)
        self.refused(TooMany("boards", 400), reached_boards, Board(WEB_401, "...d.d...."), "dark")
        self.refused(TooMany("boards", 400), least_taking, Board(WEB_401, "...d.d...."), "f")

    def test_too_many_boards_around_a_standing_company(self):
        web = Web(grid_web(3, 4).places + ["x", "y", "z"], grid_web(3, 4).ties + [("x", "y"), ("y", "z")])
        board = Board(web, "............" + ".d.")
        self.assertIs(stands(board, "y"), True)
        self.refused(TooMany("boards", 400), least_taking, board, "y")
        self.refused(NoStone("x"), least_taking, board, "x")
        self.refused(NoPlace("w"), least_taking, board, "w")
        self.refused(NoHand("x"), reached_boards, board, "x")
        # Light can lay on one of x and z alone, and on nothing else that dark has.
        self.assertEqual(reached_boards(Board(Web("xyz", [("x", "y"), ("y", "z")]), ".d."), "dark"), [".d."])

    def test_boards_that_are_not_right_are_told_ahead(self):
        web = Web(grid_web(3, 4).places + ["x"], grid_web(3, 4).ties)
        wrong = Board(web, "............d")
        self.refused(NotRight("x"), reached_boards, wrong, "dark")
        self.refused(NotRight("x"), least_taking, wrong, "x")
        self.refused(NotRight("x"), least_taking, wrong, "a1")

    def test_the_board_itself_is_reached(self):
        self.assertEqual(reached_boards(Board(FOUR, "d..."), "light"), sorted(plain_reached(Board(FOUR, "d..."), "light")))
        self.assertIn("d...", reached_boards(Board(FOUR, "d..."), "light"))
        self.assertEqual(reached_boards(Board(Web("a", []), "."), "dark"), ["."])

    def test_the_least_row_need_not_be_the_built_one(self):
        self.assertEqual(least_taking(FALLS, "b"), ["c", "a"])
        self.assertIsNone(least_taking(STANDS, "b"))
        shorter = [place for board in boards_to_compare() if len(board.web) < 8 for place, _ in falling(board)
                   if len(least_taking(board, place)) < len(taking_row(board, place))]
        self.assertGreater(len(shorter), 0)


class TestDecisions(Case):
    def test_all_decisions(self):
        for board in boards_to_compare():
            for hand in HANDS:
                for name in company_names(board, hand):
                    place = company_of(board, name)[-1]
                    word, paper = decision = decide(board, place)
                    self.assertIsInstance(decision, tuple)
                    if stands(board, place):
                        self.assertEqual(decision, ("stands", narrow_paper(board, place)))
                    else:
                        self.assertEqual(decision, ("falls", taking_row(board, place)))
                    self.assertIs(is_decision(board, place, word, paper), True)
                    self.assertIs(is_decision(board, place, "stands" if word == "falls" else "falls", paper), False)
                    self.assertIs(is_decision(board, place, word, []), False)

    def test_other_right_decisions(self):
        board = Board(FIVE, ".d.d.")
        self.assertIs(is_decision(board, "b", "stands", [("d", "e", "c"), ("b", "a", "c")]), True)
        self.assertIs(is_decision(FALLS, "b", "falls", ["c", "a", "b"]), True)
        self.assertIs(is_decision(board=board, place="d", word="stands", paper=stand_paper(board, "dark")), True)

    def test_words_and_lists(self):
        paper, row = [("b", "a", "c")], ["c", "a"]
        self.assertIs(is_paper_for(STANDS, "b", paper), True)
        for board, word, given in itertools.product((STANDS, FALLS), ("stands", "falls", "stand", "", "Stands", "d"),
                                                    (paper, row, [], ["abc"], ["b"], [("a", "b", "c")])):
            right = (board is STANDS and word == "stands" and given is paper
                     or board is FALLS and word == "falls" and given is row)
            self.assertIs(is_decision(board, "b", word, given), right)

    def test_names_of_three_letters_are_no_rows(self):
        # A text of three letters is no tuple of three texts.
        self.assertIs(is_decision(STANDS, "b", "stands", ["bac"]), False)

    def test_a_paper_without_a_row_for_the_company(self):
        board = Board(Web("abcfgh", [("a", "b"), ("b", "c"), ("f", "g"), ("g", "h")]), ".d..d.")
        self.assertIs(is_decision(board, "g", "stands", [("b", "a", "c")]), False)
        self.assertIs(is_decision(board, "g", "stands", [("b", "a", "c"), ("g", "f", "h")]), True)
        self.assertEqual(decide(board=board, place="g"), ("stands", [("g", "f", "h")]))


class TestErrors(Case):
    def test_the_order_of_the_errors(self):
        calls = [(call, ()) for call in (taking_steps, taking_row, taking_game, least_taking, decide)]
        calls += [(is_taking_row, (["z"],)), (is_taking_row, ([],)), (is_decision, ("x", [])),
                  (is_decision, ("falls", ["z"])), (is_decision, ("stands", [("z", "", "")]))]
        for call, rest in calls:
            for place in ("z", "", "-", "A"):
                self.refused(NoPlace(place), call, WRONG, place, *rest)
                self.refused(NoPlace(place), call, FALLS, place, *rest)
            self.refused(NotRight("a"), call, WRONG, "c", *rest)
            self.refused(NotRight("a"), call, WRONG, "a", *rest)
            self.refused(NoStone("c"), call, FALLS, "c", *rest)
        for call in (taking_all, reached_boards):
            self.refused(NoHand("x"), call, WRONG, "x")
            self.refused(NoHand("Dark"), call, FALLS, "Dark")
            self.refused(NotRight("a"), call, WRONG, "dark")

    def test_told_lists_are_new(self):
        taking_steps(FALLS, "b")[0][2].append("x")
        taking_row(FALLS, "b").append("x")
        taking_game(FALLS, "b").undo()
        least_taking(FALLS, "b").append("x")
        reached_boards(FALLS, "dark").append("x")
        decide(FALLS, "b")[1].append("x")
        taking_all(FALLS, "dark").append("x")
        self.assertEqual(taking_steps(FALLS, "b"), [("b", "a", ["c", "a"])])
        self.assertEqual((taking_row(FALLS, "b"), least_taking(FALLS, "b")), (["c", "a"], ["c", "a"]))
        self.assertEqual((decide(FALLS, "b"), taking_all(FALLS, "dark")), (("falls", ["c", "a"]), ["c", "a"]))
        self.assertEqual((len(taking_game(FALLS, "b")), FALLS), (3, Board(FOUR, ".d..")))
        self.assertIsInstance(taking_game(FALLS, "b"), Game)

    def test_the_mirrored_board(self):
        for board in boards_to_compare():
            self.assertEqual(taking_all(board, "dark"), taking_all(-board, "light"))
            for place, _ in falling(board):
                self.assertEqual(taking_steps(board, place), taking_steps(-board, place))
                self.assertEqual(decide(board, place), decide(-board, place))
            if len(board.web) < 7:
                self.assertEqual(reached_boards(board, "dark"),
                                 sorted((-Board(board.web, signs)).signs for signs in reached_boards(-board, "light")))
                for place, _ in falling(board):
                    self.assertEqual(least_taking(board, place), least_taking(-board, place))


if __name__ == "__main__":
    unittest.main()
