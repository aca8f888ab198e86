"""Points [69] to [71], [73] and [75]: the search, the chase, the passing search and the attack on all companies."""

import itertools
import random
import unittest

from helper import (TWO_COMBS, Case, drawn_boards, grid_web, other, path_web, plain_companies, plain_signs,
                    right_boards, ring_web, tree_web)
from searching import PlainAttack
from tworooms.boards import Board
from tworooms.companies import free_neighbours
from tworooms.errors import BadNumber, NoHand, NoPlace, NoStone, NotRight, TooMany
from tworooms.rounds import stands
from tworooms.search import attack, attack_all, chase, passing_search
from tworooms.takings import least_taking
from tworooms.trees import is_escape_tree, is_kept_tree, is_taken_tree
from tworooms.webs import Web

TWO = path_web("ab")
THREE = path_web("abc")
FOUR = path_web("abcd")
STAR = Web("abcd", [("a", "b"), ("a", "c"), ("a", "d")])
WRONG_NUMBERS = (True, False, None, -1, 401, 10 ** 19)


def targets(boards):
    """Each board with each of its stones."""
    for board in boards:
        for place in board.web.places:
            if board.sign(place) != ".":
                yield board, place


def small_targets(step=1):
    """Boards of small webs with one stone each."""
    webs = [THREE, ring_web("abc"), FOUR, STAR, ring_web("abcd")]
    return itertools.islice(targets(board for web in webs for board in right_boards(web)), 0, None, step)


def shields_for(board, place):
    """No shield, and each shield that there may be."""
    return [None] + [stone for stone in board.web.places if board.hand_at(stone) == other(board.hand_at(place))]


def is_sharp(answer):
    """Whether the search came to an end."""
    return answer[0] != "open"


class TestAgainstThePlainSearch(Case):
    def check(self, told, call, plain, kind, depth, **rest):
        """The answer, and that of the budget that is just enough and of one less."""
        answer = plain.answer(kind, rest.get("first"), depth, 400)
        self.assertEqual(call(plain.board, plain.target, depth=depth, budget=400, **rest), answer)
        told[answer[0]] = told.get(answer[0], 0) + 1
        self.assertEqual(call(plain.board, plain.target, depth=depth, budget=answer[2], **rest), answer)
        if answer[2] > 1:
            less = answer[2] - 1
            self.assertEqual(call(plain.board, plain.target, depth=depth, budget=less, **rest), ("open", [], less))

    def test_attacks(self):
        told = {}
        for board, place in small_targets(3):
            for shield, first in itertools.product(shields_for(board, place), (None, "dark", "light")):
                for depth in range(4):
                    self.check(told, attack, PlainAttack(board, place, shield), "attack", depth,
                               first=first, shield=shield)
        self.assertGreater(min(told["taken"], told["kept"]), 100)

    def test_deeper_attacks(self):
        told = {}
        boards = [board for web in (TWO, THREE, ring_web("abc"), STAR) for board in right_boards(web)]
        for board, place in itertools.islice(targets(boards), 0, None, 4):
            for depth, first in itertools.product((4, 5, 12), ("dark", "light")):
                shield = shields_for(board, place)[-1]
                self.check(told, attack, PlainAttack(board, place, shield), "attack", depth,
                           first=first, shield=shield)
        self.assertGreater(min(told["taken"], told["kept"]), 20)

    def test_attacks_on_larger_boards(self):
        told = {}
        for web, bag in ((grid_web(2, 4), "...dddl"), (tree_web(9), "..ddl"), (TWO_COMBS, ".dddlll")):
            for board, place in itertools.islice(targets(drawn_boards(web, 12, bag)), 0, None, 7):
                for depth in (1, 2, 3):
                    self.check(told, attack, PlainAttack(board, place), "attack", depth)
        self.assertGreater(min(told["taken"], told["kept"]), 5)

    def test_chases(self):
        told = {}
        for board, place in small_targets(2):
            for depth in range(6):
                self.check(told, chase, PlainAttack(board, place), "chase", depth)
        boards = [board for web in (TWO, THREE, STAR) for board in right_boards(web)]
        boards += drawn_boards(tree_web(9), 10, "..ddl") + drawn_boards(grid_web(2, 4), 20, "..dl")
        for board, place in itertools.islice(targets(boards), 0, None, 3):
            for depth in (4, 12):
                self.check(told, chase, PlainAttack(board, place), "chase", depth)
        self.assertGreater(min(told["taken"], told["escaped"]), 50)

    def test_passing_searches(self):
        told = {}
        for board, place in small_targets(2):
            for depth in range(6):
                self.check(told, passing_search, PlainAttack(board, place), "passing", depth)
        boards = [board for web in (TWO, THREE, STAR) for board in right_boards(web)]
        for board, place in itertools.islice(targets(boards + drawn_boards(tree_web(9), 10, "..ddl")), 0, None, 5):
            self.check(told, passing_search, PlainAttack(board, place), "passing", 12)
        self.assertGreater(min(told["taken"], told["kept"]), 50)

    def test_all_companies_of_a_hand(self):
        drawn = drawn_boards(tree_web(9), 10, "..ddl") + drawn_boards(grid_web(3, 4), 10, "..dl")
        for board in drawn + [Board(FOUR, "...."), Board(TWO_COMBS, "d..d..d.d..d..l.")]:
            for hand in ("dark", "light"):
                names = [part[0] for part in plain_companies(board.web, plain_signs(board), hand[0])]
                for depth, budget in ((0, 1), (1, 200), (2, 10), (3, 40)):
                    told = [(name, attack(board, name, first=other(hand), depth=depth, budget=budget)[0])
                            for name in names]
                    self.assertEqual(attack_all(board, hand, depth=depth, budget=budget), told)


class TestAnswers(Case):
    def test_the_document_examples(self):
        self.assertEqual(attack(Board(TWO, "d."), "a", depth=1), ("taken", [("b", [])], 1))
        self.assertEqual(attack(Board(THREE, ".d."), "b", depth=1), ("kept", [("-", [])], 2))

    def test_trees_are_what_they_say(self):
        sharp = 0
        for board, place in small_targets(2):
            for first, depth in itertools.product(("dark", "light"), (1, 2, 3, 5)):
                shield = shields_for(board, place)[-1]
                verdict, tree, _ = attack(board, place, first=first, depth=depth, budget=400, shield=shield)
                rest = {"first": first, "depth": depth, "shield": shield}
                if verdict == "open":
                    self.assertEqual(tree, [])
                else:
                    sharp += 1
                    self.assertIs(is_taken_tree(board, place, tree, **rest), verdict == "taken")
                    self.assertIs(is_kept_tree(board, place, tree, **rest), verdict == "kept")
        self.assertGreater(sharp, 200)

    def test_trees_of_chases_and_passing_searches(self):
        told = {"taken": 0, "escaped": 0, "open": 0, "kept": 0}
        for board, place in small_targets():
            for depth in (1, 3, 5):
                verdict, tree, _ = chase(board, place, depth=depth, budget=400)
                told[verdict] += 1
                if verdict == "taken":
                    self.assertIs(is_taken_tree(board, place, tree, depth=depth), True)
                elif verdict == "escaped":
                    self.assertIs(is_escape_tree(board, place, tree, depth=depth), True)
                verdict, tree, _ = passing_search(board, place, depth=depth)
                if verdict == "kept":
                    told[verdict] += 1
                    self.assertIs(is_kept_tree(board, place, tree, depth=depth), True)
        self.assertGreater(min(told["taken"], told["escaped"], told["kept"]), 50)

    def test_the_tree_of_a_passing_search_need_not_be_a_taken_tree(self):
        board = Board(THREE, "d..")
        self.assertEqual(passing_search(board, "a", depth=1)[:2], ("taken", [("b", [])]))
        board = Board(path_web("abcd"), ".d..")
        verdict, tree, _ = passing_search(board, "b", depth=3)
        self.assertEqual((verdict, tree), ("taken", [("c", [("-", [("a", [])])])]))
        self.assertIs(is_taken_tree(board, "b", tree, depth=3), False)

    def test_passing_search_and_the_least_row(self):
        told = {"taken": 0, "kept": 0}
        boards = drawn_boards(tree_web(9), 20, "..ddl") + drawn_boards(path_web("abcdef"), 20, "..ddl")
        for board, place in itertools.chain(small_targets(), targets(boards)):
            try:
                row = least_taking(board, place)
            except TooMany:
                continue
            for depth in range(7):
                answer = passing_search(board, place, depth=depth, budget=400)
                if is_sharp(answer):
                    told[answer[0]] += 1
                    taken = row is not None and len(row) <= (depth + 1) // 2
                    self.assertEqual(answer[0], "taken" if taken else "kept")
        self.assertGreater(min(told.values()), 100)

    def test_a_company_that_stands_is_never_taken(self):
        seen = 0
        boards = drawn_boards(TWO_COMBS, 20, "....ddddll") + drawn_boards(path_web("abcdef"), 40, "..ddl")
        for board, place in itertools.chain(small_targets(), targets(boards)):
            if stands(board, place):
                seen += 1
                for depth in (1, 2, 3, 5):
                    for first in ("dark", "light"):
                        self.assertNotEqual(attack(board, place, first=first, depth=depth, budget=60)[0], "taken")
                    self.assertNotEqual(chase(board, place, depth=depth, budget=60)[0], "taken")
                    self.assertNotEqual(passing_search(board, place, depth=depth, budget=60)[0], "taken")
                hand = board.hand_at(place)
                self.assertNotIn("taken", [verdict for name, verdict in attack_all(board, hand, depth=3, budget=60)
                                           if stands(board, name)])
        self.assertGreater(seen, 50)

    def test_more_depth_never_turns_taken_into_kept(self):
        taken = 0
        for board, place in small_targets():
            for first in ("dark", "light"):
                verdicts = [attack(board, place, first=first, depth=depth, budget=400)[0] for depth in range(6)]
                if "taken" in verdicts:
                    taken += 1
                    self.assertNotIn("kept", verdicts[verdicts.index("taken"):])
        self.assertGreater(taken, 50)

    def test_depth_and_the_first_hand(self):
        board = Board(THREE, "d..")
        self.assertEqual(attack(board, "a", depth=0), ("kept", [], 1))
        self.assertEqual(attack(board, "a", first="dark", depth=1)[0], "kept")
        tree = [("b", [("c", [])]), ("c", [("b", [])]), ("-", [("b", [])])]
        self.assertEqual(attack(board, "a", first="dark", depth=2), ("taken", tree, 4))
        self.assertEqual(attack(board, "a", first="light", depth=2), ("taken", [("b", [])], 1))
        self.assertEqual(chase(board, "a", depth=0), ("escaped", [], 1))
        self.assertEqual(passing_search(board, "a", depth=0), ("kept", [], 1))

    def test_a_decided_position_is_not_looked_at(self):
        board = Board(THREE, "d.l")
        for depth in (1, 12):
            self.assertEqual(attack(board, "a", depth=depth, budget=1), ("taken", [("b", [])], 1))
            self.assertEqual(attack(board, "a", first="dark", depth=depth, shield="c", budget=1),
                             ("kept", [("b", [])], 1))
        # Without the shield the laying on b is a position like another one.
        self.assertEqual(attack(board, "a", first="dark", depth=2, budget=1), ("open", [], 1))
        self.assertEqual(attack(board, "a", first="dark", depth=1), ("kept", [("b", [])], 2))

    def test_a_game_that_is_over_is_kept(self):
        tree = [("-", [("-", [])])]
        # Dark passes last, since its layings on a and c would lose b.
        self.assertEqual(attack(Board(THREE, ".d."), "b", depth=12), ("kept", tree, 5))
        self.assertEqual(chase(Board(THREE, ".d."), "b", depth=12), ("escaped", [], 1))
        self.assertEqual(passing_search(Board(THREE, ".d."), "b", depth=12), ("kept", tree, 3))

    def test_a_chase_with_two_and_three_free_neighbours(self):
        web = Web("abcdefg", [("a", "b"), ("a", "c"), ("a", "d"), ("b", "e"), ("c", "f"), ("d", "g")])
        self.assertEqual(chase(Board(web, "d......"), "a"), ("escaped", [], 1))
        two = Board(web, "d..l...")
        self.assertEqual(free_neighbours(two, "a"), ["b", "c"])
        self.assertEqual(chase(two, "a", depth=1), ("escaped", [("b", []), ("c", [])], 3))
        self.assertEqual(chase(Board(web, "d.ll..."), "a", depth=1), ("taken", [("b", [])], 1))
        # The pass and the layings elsewhere are deeds of the defender, but not of the attacker.
        verdict, tree, _ = chase(two, "a", depth=2)
        self.assertEqual((verdict, [deed for deed, _ in tree]), ("escaped", ["b", "c"]))
        self.assertEqual([deed for _, rest in tree for deed, _ in rest], ["c", "b"])

    def test_a_chase_on_places_where_the_attacker_may_not_lay(self):
        # Light can lay on neither of the free neighbours of b.
        self.assertEqual(chase(Board(THREE, ".d."), "b"), ("escaped", [], 1))
        self.assertEqual(chase(Board(FOUR, ".d.l"), "b"), ("escaped", [], 1))
        # Light can lay on c alone, and on a once it takes.
        self.assertEqual(chase(Board(path_web("abcde"), ".d..l"), "b", depth=1), ("escaped", [("c", [])], 2))
        self.assertEqual(chase(Board(FOUR, ".dl."), "b", depth=1), ("taken", [("a", [])], 1))

    def test_a_laying_that_comes_back_is_not_let(self):
        web = Web("abcxyz", [("a", "b"), ("b", "c"), ("x", "y"), ("x", "z")])
        board = Board(web, "d.ld..")
        for first in ("dark", "light"):
            self.assertEqual(attack(board, "x", first=first, depth=5, budget=400),
                             PlainAttack(board, "x").answer("attack", first, 5, 400))
        # Light takes a by the laying on b and dark takes that stone back; the same again is not let.
        tree = attack(board, "x", first="dark", depth=4, budget=400)[1]
        self.assertEqual(tree, PlainAttack(board, "x").answer("attack", "dark", 4)[1])

    def test_the_defaults(self):
        drawn = random.Random(4)
        boards = drawn_boards(grid_web(3, 4), 8, "...ddl") + drawn_boards(tree_web(9), 8, "..ddl")
        for board, place in drawn.sample(list(targets(boards)), 12):
            first = other(board.hand_at(place))
            self.assertEqual(attack(board, place),
                             attack(board, place, first=first, depth=4, budget=200, shield=None))
            self.assertEqual(chase(board, place), chase(board, place, depth=8, budget=200))
            self.assertEqual(passing_search(board, place), passing_search(board, place, depth=5, budget=200))
            hand = board.hand_at(place)
            self.assertEqual(attack_all(board, hand), attack_all(board, hand, depth=2, budget=200))

    def test_the_default_depths_and_budgets_matter(self):
        wide = Board(grid_web(4, 5), "." * 19 + "d")
        self.assertEqual(attack(wide, "d5"), ("open", [], 200))
        self.assertEqual(passing_search(wide, "d5"), ("open", [], 200))
        # Light needs two layings to take b, and dark passes between them.
        board = Board(path_web("abcd"), ".d..")
        self.assertEqual([passing_search(board, "b", depth=depth)[0] for depth in (2, 3)], ["kept", "taken"])
        self.assertEqual(passing_search(board, "b")[0], "taken")

    def test_the_mirrored_board(self):
        for board, place in small_targets(5):
            for first, shield in itertools.product(("dark", "light"), shields_for(board, place)):
                self.assertEqual(attack(-board, place, first=other(first), depth=3, shield=shield),
                                 attack(board, place, first=first, depth=3, shield=shield))
            self.assertEqual(chase(-board, place, depth=4), chase(board, place, depth=4))
            self.assertEqual(passing_search(-board, place), passing_search(board, place))
            self.assertEqual(attack_all(-board, "dark"), attack_all(board, "light"))

    def test_told_trees_are_new(self):
        board = Board(THREE, "d..")
        attack(board, "a", first="dark", depth=2)[1][0][1].append("x")
        chase(Board(TWO, "d."), "a")[1].append("x")
        passing_search(Board(TWO, "d."), "a")[1][0][1].append("x")
        attack_all(board, "dark").append("x")
        tree = [("b", [("c", [])]), ("c", [("b", [])]), ("-", [("b", [])])]
        self.assertEqual(attack(board, "a", first="dark", depth=2), ("taken", tree, 4))
        self.assertEqual(chase(Board(TWO, "d."), "a"), ("taken", [("b", [])], 1))
        self.assertEqual(passing_search(Board(TWO, "d."), "a"), ("taken", [("b", [])], 1))
        self.assertEqual(attack_all(board=board, hand="dark"), [("a", "taken")])
        self.assertEqual(attack_all(Board(TWO, ".."), "dark"), [])


class TestErrors(Case):
    def test_the_order_of_the_errors(self):
        right, wrong = Board(FOUR, ".dl."), Board(FOUR, "dl.d")
        for board in (right, wrong):
            for bad in WRONG_NUMBERS + (13,):
                self.refused(BadNumber("depth", bad), attack, board, "z", first="x", depth=bad, budget=0, shield="y")
                self.refused(BadNumber("depth", bad), chase, board, "z", depth=bad, budget=0)
                self.refused(BadNumber("depth", bad), passing_search, board, "z", depth=bad, budget=0)
                self.refused(BadNumber("depth", bad), attack_all, board, "x", depth=bad, budget=0)
            for bad in WRONG_NUMBERS + (0,):
                self.refused(BadNumber("budget", bad), attack, board, "z", first="x", budget=bad, shield="y")
                self.refused(BadNumber("budget", bad), chase, board, "z", budget=bad)
                self.refused(BadNumber("budget", bad), passing_search, board, "z", budget=bad)
                self.refused(BadNumber("budget", bad), attack_all, board, "x", budget=bad)
            for first in ("x", "", "Dark"):
                self.refused(NoHand(first), attack, board, "z", first=first, shield="y")
                self.refused(NoHand(first), attack_all, board, first)
            self.refused(NoPlace("z"), attack, board, "z", shield="y")
            self.refused(NoPlace("y"), attack, board, "a", shield="y")
            self.refused(NoPlace("-"), chase, board, "-")
            self.refused(NoPlace(""), passing_search, board, "")
        for call in (attack, chase, passing_search):
            self.refused(NotRight("a"), call, wrong, "c")
            self.refused(NoStone("a"), call, right, "a")
        self.refused(NotRight("a"), attack, wrong, "c", shield="c")
        self.refused(NotRight("a"), attack_all, wrong, "light")
        # The hand need not have a company on the board.
        self.refused(NotRight("a"), attack_all, Board(FOUR, "dddd"), "light")
        self.refused(NoStone("a"), attack, right, "a", shield="d")
        self.refused(NoStone("d"), attack, right, "b", shield="d")
        self.refused(NoStone("b"), attack, right, "b", shield="b")
        self.refused(NoStone("c"), attack, right, "c", first="light", shield="c")

    def test_the_bounds_are_allowed(self):
        board = Board(TWO, "d.")
        for depth, budget in ((0, 1), (12, 400), (12, 1), (0, 400)):
            self.assertEqual(attack(board, "a", depth=depth, budget=budget)[2], 1)
            self.assertEqual(chase(board, "a", depth=depth, budget=budget)[2], 1)
            self.assertEqual(passing_search(board, "a", depth=depth, budget=budget)[2], 1)
            self.assertEqual(len(attack_all(board, "dark", depth=depth, budget=budget)), 1)


if __name__ == "__main__":
    unittest.main()
