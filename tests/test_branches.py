"""Points [28] and [29]: branches and their text form."""

import unittest

from helper import Case, boards_to_compare, grid_web, path_web, play_on
from tworooms.boards import Board, empty_board
from tworooms.branches import Branches, read_branches, write_branches
from tworooms.errors import (BadNumber, BadText, ComesBack, GameOver, NoEntry, NoHand, NoPlace, NotRight, Occupied,
                             SelfTaking, TooMany)
from tworooms.games import Game
from tworooms.records import replay
from tworooms.webs import Web

THREE = path_web("abc")
HEAD = "places a b c\nties a-b b-c\nboard ...\nfirst dark"
BESIDE = (-1, -61, 61, 10 ** 19, 99)


def some_branches():
    """Seven nodes: 0 - 1 a - 2 c - 3 b; 1 - 4 -; 0 - 5 -; 5 - 6 -."""
    branches = Branches(empty_board(THREE), "dark")
    for node, deed in ((0, "a"), (1, "c"), (2, "b"), (1, "-"), (0, "-"), (5, "-")):
        branches.grow(node, deed)
    return branches


def full_branches():
    """A chain of 60 deeds."""
    game = play_on(Game(empty_board(grid_web(4, 5)), "light"), 1)
    branches = Branches(game.first_board, "light")
    for node, deed in enumerate(game.deeds):
        branches.grow(node, deed)
    return branches


def bushy_branches():
    """Sixty nodes behind node 0, grown from each node by all its deeds."""
    branches = Branches(empty_board(path_web("abcd")), "dark")
    node = 0
    while len(branches) < 61:
        for deed in branches.game_at(node).open_deeds()[:61 - len(branches)]:
            branches.grow(node, deed)
        node += 1
    return branches


class TestBranches(Case):
    def test_new_branches(self):
        board = Board(THREE, "d.l")
        branches = Branches(board=board, first="light")
        self.assertEqual((branches.first_board, branches.first_hand, len(branches)), (board, "light", 1))
        self.assertEqual((branches.parent(0), branches.deed(0)), (None, None))
        self.assertEqual((branches.children(0), branches.path(0), branches.leaves()), ([], [], [0]))
        self.assertEqual(branches.game_at(0), Game(board, "light"))
        self.assertEqual(branches.meeting(0, 0), 0)

    def test_the_errors_of_the_class(self):
        self.refused(NoHand("x"), Branches, Board(THREE, "dl."), "x")
        self.refused(NotRight("a"), Branches, Board(THREE, "dl."), "dark")

    def test_grown_branches(self):
        branches = some_branches()
        self.assertEqual(len(branches), 7)
        self.assertEqual([branches.parent(node) for node in range(7)], [None, 0, 1, 2, 1, 0, 5])
        self.assertEqual([branches.deed(node) for node in range(7)], [None, "a", "c", "b", "-", "-", "-"])
        self.assertEqual([branches.children(node) for node in range(7)], [[1, 5], [2, 4], [3], [], [], [6], []])
        self.assertEqual(branches.path(3), ["a", "c", "b"])
        self.assertEqual(branches.path(4), ["a", "-"])
        self.assertEqual(branches.leaves(), [3, 4, 6])
        for node in range(7):
            self.assertEqual(branches.game_at(node), replay(empty_board(THREE), "dark", branches.path(node)))
        self.assertIs(branches.game_at(6).over, True)
        self.assertEqual(branches.game_at(3).board.signs, "dd.")

    def test_grow_to_a_child_that_is_there(self):
        branches = some_branches()
        self.assertEqual(branches.grow(0, "a"), 1)
        self.assertEqual(branches.grow(node=1, deed="-"), 4)
        self.assertEqual(branches.grow(0, "b"), 7)
        self.assertEqual(branches.grow(0, "b"), 7)
        self.assertEqual(branches.grow(1, "b"), 8)
        self.assertEqual((len(branches), branches.children(0)), (9, [1, 5, 7]))

    def test_meeting(self):
        branches = some_branches()
        told = {(0, 3): 0, (3, 3): 3, (3, 2): 2, (2, 3): 2, (3, 4): 1, (4, 3): 1, (3, 6): 0, (1, 3): 1, (5, 6): 5,
                (4, 5): 0, (4, 4): 4, (2, 4): 1}
        for (one, two), node in told.items():
            self.assertEqual(branches.meeting(one=one, two=two), node)
        bushy = bushy_branches()
        for one in range(61):
            for two in range(61):
                alike = [deed for deed, rest in zip(bushy.path(one), bushy.path(two))]
                while alike != bushy.path(one)[:len(alike)] or alike != bushy.path(two)[:len(alike)]:
                    alike.pop()
                self.assertEqual(bushy.path(bushy.meeting(one, two)), alike)

    def test_nodes_of_the_wrong_kind(self):
        branches = some_branches()
        calls = (branches.parent, branches.deed, branches.children, branches.path, branches.game_at)
        for node in (True, False, None):
            for call in calls:
                self.refused(BadNumber("node", node), call, node)
            self.refused(BadNumber("node", node), branches.grow, node, "zz")
            for rest in (0, 99, -1, True):
                self.refused(BadNumber("one", node), branches.meeting, node, rest)
            for rest in (0, 99, -1):
                self.refused(BadNumber("two", node), branches.meeting, rest, node)
        for node in BESIDE + (7,):
            for call in calls:
                self.refused(NoEntry(node), call, node)
            self.refused(NoEntry(node), branches.grow, node, "zz")
            self.refused(NoEntry(node), branches.grow, node, "a")
            self.refused(NoEntry(node), branches.meeting, node, 0)
            self.refused(NoEntry(node), branches.meeting, 0, node)
            self.refused(NoEntry(node), branches.meeting, node, 8)
            self.refused(NoEntry(8), branches.meeting, 8, node)

    def test_refused_deeds_change_nothing(self):
        branches = some_branches()
        told = [(NoPlace("z"), 0, "z"), (NoPlace(""), 6, ""), (GameOver(), 6, "a"), (GameOver(), 6, "-"),
                (Occupied("a"), 1, "a"), (Occupied("c"), 2, "c")]
        for error, node, deed in told:
            self.refused(error, branches.grow, node, deed)
            self.assertEqual(branches, some_branches())
        self.assertEqual(branches.grow(3, "-"), 7)
        self.refused(SelfTaking("c"), branches.grow, 7, "c")
        self.assertEqual((len(branches), branches.children(7)), (8, []))

    def test_a_board_that_comes_back(self):
        branches = Branches(empty_board(THREE), "dark")
        for node, deed in enumerate(["a", "c", "b", "c"]):
            branches.grow(node, deed)
        self.refused(ComesBack("a"), branches.grow, 4, "a")
        self.assertEqual(branches.grow(0, "c"), 5)
        self.assertEqual(len(branches), 6)

    def test_full_branches(self):
        for branches in (full_branches(), bushy_branches()):
            self.assertEqual(len(branches), 61)
            last = branches.leaves()[0]
            for deed in ("zz", "", "-" if "-" not in branches.game_at(last).open_deeds() else "q"):
                self.refused(TooMany("nodes", 60), branches.grow, last, deed)
            self.refused(TooMany("nodes", 60), branches.grow, 0, "zz")
            self.assertEqual(branches.grow(0, branches.deed(1)), 1)
            self.assertEqual(branches.grow(branches.parent(60), branches.deed(60)), 60)
            self.refused(NoEntry(61), branches.grow, 61, "a")
            self.refused(NoEntry(-1), branches.grow, -1, "a")
            self.refused(BadNumber("node", True), branches.grow, True, "a")
            self.assertEqual(len(branches), 61)
        # Node 60 of the chain is a game that is over; it is told behind the number of nodes.
        self.refused(TooMany("nodes", 60), full_branches().grow, 60, "-")

    def test_in(self):
        branches = some_branches()
        for node in range(7):
            self.assertIs(node in branches, True)
        for other in BESIDE + (7, True, False, None, "0", "1", "", "a", "-"):
            self.assertIs(other in branches, False)

    def test_equal_branches(self):
        self.assertEqual(some_branches(), some_branches())
        self.assertIs(some_branches() != some_branches(), False)
        one = some_branches()
        one.grow(0, "b")
        self.assertIs(one == some_branches(), False)
        self.assertIs(one != some_branches(), True)
        for other in (Branches(empty_board(THREE), "light"), Branches(Board(THREE, "..d"), "dark"),
                      Branches(empty_board(Web("abc", [])), "dark"), None, "", 1, empty_board(THREE),
                      Game(empty_board(THREE), "dark")):
            self.assertIs(Branches(empty_board(THREE), "dark") == other, False)
            self.assertIs(Branches(empty_board(THREE), "dark") != other, True)

    def test_the_order_of_growing_counts(self):
        one, two, three = [Branches(empty_board(THREE), "dark") for _ in range(3)]
        for branches, deeds in ((one, "ab"), (two, "ba"), (three, "ab")):
            for deed in deeds:
                branches.grow(0, deed)
        self.assertIs(one == two, False)
        self.assertIs(one == three, True)
        one.grow(1, "-")
        three.grow(2, "-")
        self.assertIs(one == three, False)

    def test_what_is_told_is_new(self):
        branches = some_branches()
        branches.game_at(1).play("c")
        branches.children(0).append(9)
        branches.path(3).append("x")
        branches.leaves().append(9)
        self.assertEqual(branches, some_branches())
        self.assertEqual(branches.game_at(1).deeds, ["a"])
        self.assertEqual((branches.children(0), branches.path(3), branches.leaves()), ([1, 5], ["a", "c", "b"],
                                                                                       [3, 4, 6]))
        game = branches.game_at(node=6)
        game.undo()
        self.assertEqual(branches.game_at(6).deeds, ["-", "-"])

    def test_by_name(self):
        branches = some_branches()
        self.assertEqual((branches.parent(node=2), branches.deed(node=2), branches.children(node=2)), (1, "c", [3]))
        self.assertEqual(branches.path(node=2), ["a", "c"])


class TestTextForm(Case):
    def test_writing(self):
        self.assertEqual(write_branches(Branches(empty_board(THREE), "dark")), HEAD)
        self.assertEqual(write_branches(branches=some_branches()),
                         HEAD + "\nnode 0 a\nnode 1 c\nnode 2 b\nnode 1 -\nnode 0 -\nnode 5 -")

    def test_reading_back(self):
        for branches in (some_branches(), full_branches(), bushy_branches(), Branches(Board(THREE, "d.l"), "light")):
            again = read_branches(text=write_branches(branches))
            self.assertEqual(again, branches)
            for node in range(len(branches)):
                self.assertEqual(again.game_at(node), branches.game_at(node))
                self.assertEqual(again.children(node), branches.children(node))

    def test_reading_back_from_many_boards(self):
        for board in boards_to_compare():
            branches = Branches(board, "light")
            for deed in branches.game_at(0).open_deeds():
                child = branches.grow(0, deed)
                branches.grow(child, branches.game_at(child).open_deeds()[0])
            self.assertEqual(read_branches(write_branches(branches)), branches)

    def check_wrong(self, told):
        for text, (line, word) in told.items():
            self.refused(BadText(line, word), read_branches, text)

    def test_first_wrong_word_ahead_of_the_nodes(self):
        start = "places a b c\nties a-b b-c\n"
        self.check_wrong({
            "": (1, 1), "places a c b\nties": (1, 4), start + "board ..": (3, 2), start + "board dl.": (3, 2),
            start + "board dl. x": (3, 2), start + "board ... x": (3, 3), start + "board ...": (4, 1),
            start + "board ...\n": (4, 1), start + "board ...\nfirst": (4, 2), start + "board ...\nfirst ": (4, 2),
            start + "board ...\nfirst none": (4, 2), start + "board ...\nfirst dark light": (4, 3),
            start + "board ...\nsecond dark\nnode 0 z": (4, 1), HEAD + " ": (4, 3), HEAD + "\n": (5, 1),
            HEAD + "\ndeeds a": (5, 1),
        })

    def test_first_wrong_word_of_the_nodes(self):
        one = HEAD + "\nnode 0 a"
        self.check_wrong({
            HEAD + "\nNode 0 a": (5, 1), HEAD + "\nnode": (5, 2), HEAD + "\nnode ": (5, 2),
            HEAD + "\nnode 00 a": (5, 2), HEAD + "\nnode +0 a": (5, 2), HEAD + "\nnode -0 a": (5, 2),
            HEAD + "\nnode 1 a": (5, 2), HEAD + "\nnode x a": (5, 2), HEAD + "\nnode " + "1" * 21 + " a": (5, 2),
            HEAD + "\nnode 0": (5, 3), HEAD + "\nnode 0 ": (5, 3), HEAD + "\nnode 0 z": (5, 3),
            HEAD + "\nnode 0 A": (5, 3), HEAD + "\nnode 0 a ": (5, 4), HEAD + "\nnode 0 a b": (5, 4),
            HEAD + "\nnode 0 z b": (5, 3), HEAD + "\nnode  0 a": (5, 2), HEAD + "\n\nnode 0 a": (5, 1),
            one + "\n": (6, 1), one + "\nnode 0 a": (6, 3), one + "\nnode 1 a": (6, 3), one + "\nnode 2 b": (6, 2),
            one + "\nnode 01 b": (6, 2), one + "\nnode 1 b b": (6, 4), one + "\nnode -1 b": (6, 2),
            one + "\nnode 0 b\nnode 3 c": (7, 2), one + "\nnode 0 b\nnode 2 b": (7, 3),
            HEAD + "\nnode 0 -\nnode 1 -\nnode 2 a": (7, 3), HEAD + "\nnode 0 -\nnode 1 -\nnode 2 -": (7, 3),
            HEAD + "\nnode 0 a\nnode 1 c\nnode 2 b\nnode 3 c\nnode 4 a": (9, 3),
        })
        self.assertEqual(len(read_branches(one + "\nnode 1 b\nnode 0 b")), 4)

    def test_the_sixty_first_node(self):
        for branches in (full_branches(), bushy_branches()):
            text = write_branches(branches)
            self.assertEqual(len(text.split("\n")), 64)
            for line in ("node 0 -", "node 99 z z", "", "x"):
                self.refused(BadText(65, 1), read_branches, text + "\n" + line)

    def test_wrong_words_at_each_line(self):
        lines = write_branches(some_branches()).split("\n")
        for at in range(4, len(lines)):
            words = lines[at].split(" ")
            for word, wrong in ((1, "knot"), (2, "x"), (3, "Z")):
                changed = words[:word - 1] + [wrong] + words[word:]
                text = "\n".join(lines[:at] + [" ".join(changed)] + lines[at + 1:])
                self.refused(BadText(at + 1, word), read_branches, text)


if __name__ == "__main__":
    unittest.main()
