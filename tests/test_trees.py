"""Points [64] to [68], [72], [74] and [75]: taken trees, kept trees, escape trees, and their text form."""

import itertools
import random
import re
import unittest

from helper import Case, other, path_web, right_boards, ring_web
from searching import PlainAttack, changed_trees
from tworooms.boards import Board
from tworooms.errors import BadNumber, BadTree, NoHand, NoPlace, NoStone, NotRight
from tworooms.rounds import stands
from tworooms.trees import (is_escape_tree, is_kept_tree, is_taken_tree, read_tree, tree_depth, tree_pairs, write_tree)
from tworooms.webs import Web

THREE = path_web("abc")
# Dark stands in the middle of a star; light can lay on no leaf, and dark can lay on most of them.
STAR = Board(Web(["m"] + ["p" + str(k) for k in range(1, 11)], [("m", "p" + str(k)) for k in range(1, 11)]),
             "d" + "." * 10)


def small_attacks():
    """Boards, targets and shields (or None) on small webs."""
    webs = [path_web("abc"), ring_web("abc"), path_web("abcd"), Web("abcd", [("a", "b"), ("a", "c"), ("a", "d")])]
    for board in itertools.islice(itertools.chain.from_iterable(right_boards(web) for web in webs), 0, None, 2):
        for target in board.web.places:
            if board.sign(target) != ".":
                shields = [place for place in board.web.places if board.hand_at(place) == other(board.hand_at(target))]
                for shield in [None] + shields:
                    yield board, target, shield


def chain_tree(deeds):
    """The tree in which each deed has the next one alone behind it."""
    tree = []
    for deed in reversed(deeds):
        tree = [(deed, tree)]
    return tree


class TestJudges(Case):
    def test_all_trees_of_small_attacks(self):
        told = {(kind, right): 0 for kind in ("taken", "kept") for right in (True, False)}
        drawn = random.Random(7)
        for board, target, shield in small_attacks():
            plain = PlainAttack(board, target, shield)
            for first, depth in itertools.product((None, "dark", "light"), (1, 2, 3)):
                taken, tree = plain.search(plain.begin(first), depth)
                self.assertIs(is_taken_tree(board, target, tree, first=first, depth=depth, shield=shield), taken)
                self.assertIs(is_kept_tree(board, target, tree, first=first, depth=depth, shield=shield), not taken)
                self.assertFalse(taken and stands(board, target))
                trees = list(changed_trees(tree))
                for changed in drawn.sample(trees, min(3, len(trees))):
                    rest = {"first": first, "depth": depth, "shield": shield}
                    right = plain.is_taken(plain.begin(first), depth, changed)
                    self.assertIs(is_taken_tree(board, target, changed, **rest), right)
                    told["taken", right] += 1
                    right = plain.is_kept(plain.begin(first), depth, changed)
                    self.assertIs(is_kept_tree(board, target, changed, **rest), right)
                    told["kept", right] += 1
        self.assertGreater(min(told.values()), 5, told)

    def test_all_escape_trees_of_small_attacks(self):
        told = {True: 0, False: 0}
        drawn = random.Random(8)
        for board, target, shield in small_attacks():
            plain = PlainAttack(board, target)
            for depth in (1, 2, 3, 4) if shield is None else ():
                taken, tree = plain.chase(plain.begin(), depth)
                self.assertIs(is_escape_tree(board, target, tree, depth=depth), not taken)
                if taken:
                    self.assertIs(is_taken_tree(board, target, tree, depth=depth), True)
                trees = list(changed_trees(tree))
                for changed in drawn.sample(trees, min(6, len(trees))):
                    right = plain.is_escape(plain.begin(), depth, changed)
                    self.assertIs(is_escape_tree(board, target, changed, depth=depth), right)
                    told[right] += 1
        self.assertGreater(min(told.values()), 5, told)

    def test_deeper_trees(self):
        boards = [Board(THREE, "d.l"), Board(THREE, "d.."), Board(THREE, ".d."), Board(ring_web("abc"), "dl.")]
        for board, depth, first in itertools.product(boards, (5, 6), ("dark", "light")):
            for target in board.bearing("d"):
                plain = PlainAttack(board, target)
                taken, tree = plain.search(plain.begin(first), depth)
                self.assertIs(is_taken_tree(board, target, tree, first=first, depth=depth), taken)
                self.assertIs(is_kept_tree(board, target, tree, first=first, depth=depth), not taken)
                for less in (depth - 2, depth - 1):
                    self.assertIs(is_kept_tree(board, target, tree, first=first, depth=less),
                                  plain.is_kept(plain.begin(first), less, tree))
                    self.assertIs(is_taken_tree(board, target, tree, first=first, depth=less),
                                  plain.is_taken(plain.begin(first), less, tree))

    def test_a_taken_tree_with_the_attacker_first(self):
        board = Board(path_web("ab"), "d.")
        for depth in range(1, 13):
            self.assertIs(is_taken_tree(board, "a", [("b", [])], depth=depth), True)
            self.assertIs(is_taken_tree(board=board, place="a", tree=[("b", [])], first="light", depth=depth), True)
            self.assertIs(is_taken_tree(board, "a", [("b", [])], first="dark", depth=depth), False)
            for tree in ([], [("-", [])], [("b", []), ("-", [])], [("b", [("-", [])])], [("b", []), ("b", [])],
                         [("a", [])], [("z", [])], [("", [])]):
                self.assertIs(is_taken_tree(board, "a", tree, depth=depth), False)
        self.assertIs(is_taken_tree(board, "a", [("b", [])], depth=0), False)
        self.assertIs(is_taken_tree(board, "a", [], depth=0), False)

    def test_a_taken_tree_with_the_defender_first(self):
        board = Board(THREE, "dd.")
        # Dark may not fill its last free place, so it can only pass.
        self.assertIs(is_taken_tree(board, "a", [("-", [("c", [])])], first="dark", depth=2), True)
        self.assertIs(is_taken_tree(board, "b", [("-", [("c", [])])], first="dark", depth=12), True)
        self.assertIs(is_taken_tree(board, "a", [("-", [("c", [])])], first="dark", depth=1), False)
        self.assertIs(is_taken_tree(board, "a", [("-", [("c", [])])], first="light", depth=2), False)
        self.assertIs(is_taken_tree(board, "a", [], first="dark", depth=2), False)
        two = Board(path_web("ab"), "..").put("a", "d")
        self.assertIs(is_taken_tree(two, "a", [("-", [("b", [])])], first="dark", depth=2), True)
        board = Board(THREE, "d..")
        rows = [("b", [("c", [])]), ("c", [("b", [])]), ("-", [("b", [])])]
        self.assertIs(is_taken_tree(board, "a", rows, first="dark", depth=2), True)
        for wrong in (rows[:2], rows[1:], rows[::-1], rows + rows[2:], [rows[1], rows[0], rows[2]],
                      rows[:2] + [("-", [("c", [])])], rows[:2] + [("-", [])]):
            self.assertIs(is_taken_tree(board, "a", wrong, first="dark", depth=2), False)

    def test_a_shield(self):
        # Dark takes the shield c by the laying on b before light can take a.
        board = Board(THREE, "d.l")
        self.assertIs(is_kept_tree(board, "a", [("b", [])], first="dark", depth=1, shield="c"), True)
        self.assertIs(is_kept_tree(board, "a", [("b", [])], first="dark", depth=12, shield="c"), True)
        self.assertIs(is_kept_tree(board, "a", [("b", [])], first="dark", depth=2), False)
        self.assertIs(is_kept_tree(board, "a", [("b", [("-", [])])], first="dark", depth=2, shield="c"), False)
        self.assertIs(is_taken_tree(board, "a", [("b", [])], depth=1, shield="c"), True)
        tree = [("b", [("c", [])]), ("-", [("b", [])])]
        self.assertIs(is_taken_tree(board, "a", tree, first="dark", depth=2), True)
        self.assertIs(is_taken_tree(board, "a", tree, first="dark", depth=2, shield="c"), False)

    def test_a_kept_tree_of_no_depth(self):
        board = Board(path_web("ab"), "d.")
        self.assertIs(is_kept_tree(board, "a", [], depth=0), True)
        self.assertIs(is_kept_tree(board, "a", [("-", [])], depth=0), False)
        self.assertIs(is_kept_tree(board, "a", [], depth=1), False)
        self.assertIs(is_escape_tree(board, "a", [], depth=0), True)
        self.assertIs(is_escape_tree(board, "a", [], depth=1), False)

    def test_a_pass_twice(self):
        # Two passes end the game; what follows must be empty, whatever the depth.
        tree = chain_tree(["-", "-"])
        for depth in range(2, 13):
            self.assertIs(is_kept_tree(Board(THREE, ".d."), "b", tree, depth=depth), True)
            self.assertIs(is_kept_tree(Board(THREE, ".d."), "b", chain_tree(["-"] * 3), depth=depth), False)
        self.assertIs(is_kept_tree(Board(THREE, ".d."), "b", tree, depth=1), False)
        self.assertIs(is_kept_tree(Board(THREE, ".d."), "b", chain_tree(["-"]), depth=1), True)
        self.assertIs(is_taken_tree(Board(THREE, "d.."), "a", [("-", [("-", [("b", [])])])], depth=3), False)

    def test_the_greatest_depth(self):
        deeds = ["-", "p1", "-", "p2", "-", "p3", "-", "p4", "-", "p5", "-", "p6", "-"]
        for depth in range(1, 13):
            for many in range(14):
                self.assertIs(is_kept_tree(STAR, "m", chain_tree(deeds[:many]), depth=depth), many == depth)
            for many in range(13):
                tree = chain_tree(deeds[1:many + 1])
                self.assertIs(is_kept_tree(STAR, "m", tree, first="dark", depth=depth), many == depth)
        self.assertIs(is_taken_tree(STAR, "m", chain_tree(deeds), depth=12), False)

    def test_a_board_that_comes_back(self):
        web = Web("abcxyz", [("a", "b"), ("b", "c"), ("x", "y"), ("x", "z")])
        board = Board(web, "d.ld..")
        plain = PlainAttack(board, "x")
        # After b, a, b and a pass the laying of light on c would bring back the board of the first laying.
        game = plain.begin()
        for deed in ("b", "a", "b", "-"):
            game = game.after(deed)
        self.assertEqual(game.look("c")[0], "comes-back")
        _, last = plain.search(game, 1)
        self.check_end(plain, "light", ["b", "a", "b", "-"], last, True)
        surplus = last[:-1] + [("c", [])] + last[-1:]
        self.assertEqual([deed for deed, _ in surplus], ["a", "c", "-"])
        self.check_end(plain, "light", ["b", "a", "b", "-"], surplus, False)
        # After b and c the laying of dark on a would bring back the first board.
        self.assertEqual(plain.begin("dark").after("b").after("c").look("a")[0], "comes-back")
        self.check_end(plain, "dark", ["b", "c"], [("b", [])], True)
        self.check_end(plain, "dark", ["b", "c"], [("a", [])], False)

    def check_end(self, plain, first, deeds, last, right):
        """Whether a tree with these deeds and this tree behind them is a kept tree."""
        depth = len(deeds) + 1
        tree = self.along(plain, plain.begin(first), deeds, depth, last)
        self.assertIs(is_kept_tree(plain.board, plain.target, tree, first=first, depth=depth), right)

    def along(self, plain, game, deeds, left, last):
        """A tree in which the deeds are made and the last tree stands behind them, else with the least kept trees."""
        if not deeds:
            return last
        rest = self.along(plain, game.after(deeds[0]), deeds[1:], left - 1, last)
        if not plain.attacks(game):
            return [(deeds[0], rest)]
        return [(deed, rest if deed == deeds[0] else plain.search(game.after(deed), left - 1)[1])
                for deed in game.open_deeds()]

    def test_escape_trees(self):
        # m has more than two free neighbours.
        for depth in range(13):
            self.assertIs(is_escape_tree(STAR, "m", [], depth=depth), True)
            self.assertIs(is_escape_tree(STAR, "m", [("-", [])], depth=depth), False)
        # b has two free neighbours, and light can lay on neither.
        self.assertIs(is_escape_tree(board=Board(THREE, ".d."), place="b", tree=[], depth=3), True)
        self.assertIs(is_escape_tree(Board(THREE, ".d."), "b", [("-", [])], depth=3), False)
        # a has exactly three free neighbours; light could lay on each of them.
        web = Web("abcdefg", [("a", "b"), ("a", "c"), ("a", "d"), ("b", "e"), ("c", "f"), ("d", "g")])
        three = Board(web, "d......")
        self.assertIs(is_escape_tree(three, "a", [], depth=1), True)
        self.assertIs(is_escape_tree(three, "a", [("b", []), ("c", []), ("d", [])], depth=1), False)
        two = Board(web, "d..l...")
        self.assertIs(is_escape_tree(two, "a", [], depth=1), False)
        self.assertIs(is_escape_tree(two, "a", [("b", []), ("c", [])], depth=1), True)
        # Light lays on b or c; dark answers on the other one and has more free neighbours then.
        web = Web("abcdefgh", [("a", "b"), ("a", "c"), ("c", "d"), ("c", "e"), ("c", "f"), ("b", "g")])
        board = Board(web, "d.......")
        tree = [("b", [("c", [])]), ("c", [("b", [("-", [])])])]
        self.assertIs(is_escape_tree(board, "a", [("b", [("c", [])]), ("c", [("b", [])])], depth=2), True)
        self.assertIs(is_escape_tree(board, "a", tree, depth=2), False)
        self.assertIs(is_escape_tree(board, "a", [("b", [("c", [])])], depth=2), False)
        self.assertIs(is_escape_tree(board, "a", [("b", [("z", [])]), ("c", [("b", [])])], depth=2), False)

    def test_the_mirrored_board(self):
        for board, target, shield in itertools.islice(small_attacks(), 0, None, 3):
            plain = PlainAttack(board, target, shield)
            for first in ("dark", "light"):
                taken, tree = plain.search(plain.begin(first), 3)
                rest = {"first": other(first), "depth": 3, "shield": shield}
                self.assertIs(is_taken_tree(-board, target, tree, **rest), taken)
                self.assertIs(is_kept_tree(-board, target, tree, **rest), not taken)

    def test_the_tree_stays(self):
        tree = [("b", [("c", [])]), ("c", [("b", [])]), ("-", [("b", [])])]
        text = repr(tree)
        is_taken_tree(Board(THREE, "d.."), "a", tree, first="dark", depth=2)
        is_kept_tree(Board(THREE, "d.."), "a", tree, first="dark", depth=2)
        is_escape_tree(Board(THREE, "d.."), "a", tree, depth=2)
        write_tree(tree)
        self.assertEqual(repr(tree), text)


class TestErrors(Case):
    def test_the_order_of_the_errors(self):
        web = path_web("abcd")
        right, wrong = Board(web, ".dl."), Board(web, "dl.d")
        for call in (is_taken_tree, is_kept_tree):
            for board in (right, wrong):
                for depth in (-1, 13, True, False, None, 10 ** 19):
                    self.refused(BadNumber("depth", depth), call, board, "z", [], first="x", depth=depth, shield="y")
                for first in ("x", "", "Dark"):
                    self.refused(NoHand(first), call, board, "z", [], first=first, depth=2, shield="y")
                self.refused(NoPlace("z"), call, board, "z", [], first="dark", depth=2, shield="y")
                self.refused(NoPlace("z"), call, board, "z", [], depth=2, shield="c")
                self.refused(NoPlace("y"), call, board, "a", [], depth=2, shield="y")
                self.refused(NoPlace(""), call, board, "b", [], depth=2, shield="")
            self.refused(NotRight("a"), call, wrong, "c", [], depth=2, shield="c")
            self.refused(NotRight("a"), call, wrong, "a", [], depth=0)
            self.refused(NoStone("a"), call, right, "a", [], depth=2, shield="d")
            self.refused(NoStone("d"), call, right, "d", [], depth=2)
            self.refused(NoStone("d"), call, right, "b", [], depth=2, shield="d")
            self.refused(NoStone("b"), call, right, "b", [], depth=2, shield="b")
            self.refused(NoStone("c"), call, right, "c", [], depth=2, first="light", shield="c")
            self.assertIs(call(right, "b", [("z", [])], depth=12, shield="c"), False)
            self.assertIs(call(right, "c", [("z", [])], depth=12, shield="b"), False)

    def test_the_errors_of_escape_trees(self):
        web = path_web("abcd")
        right, wrong = Board(web, ".dl."), Board(web, "dl.d")
        for depth in (-1, 13, True, None):
            self.refused(BadNumber("depth", depth), is_escape_tree, wrong, "z", [], depth=depth)
        self.refused(NoPlace("z"), is_escape_tree, wrong, "z", [], depth=12)
        self.refused(NotRight("a"), is_escape_tree, wrong, "c", [], depth=12)
        self.refused(NoStone("d"), is_escape_tree, right, "d", [], depth=12)


def is_tree_text(text):
    """Whether a short text is a tree: pairs without a further pair inside are struck out until none is left."""
    while True:
        less = re.sub(r"(?<![a-z0-9-])(-|[a-z][a-z0-9]{0,5})\(#*\)", "#", text)
        if less == text:
            return set(text) <= {"#"}
        text = less


def first_fault(text):
    """The index that point [74] asks for, or None."""
    if is_tree_text(text):
        return None
    for at in range(len(text)):
        start = text[:at + 1]
        ends = [middle + ")" * many for middle in ("", "()") for many in range(at + 3)]
        if not any(is_tree_text(start + end) for end in ends):
            return at
    return len(text)


class TestTextForm(Case):
    def test_writing(self):
        tree = [("b", [("c", [])]), ("c", [("b", []), ("-", [])]), ("-", [])]
        self.assertEqual(write_tree(tree=tree), "b(c())c(b()-())-()")
        self.assertEqual(write_tree([]), "")
        self.assertEqual(write_tree([("a1b2c3", [])]), "a1b2c3()")

    def test_reading_back(self):
        for board, target, shield in itertools.islice(small_attacks(), 0, None, 5):
            plain = PlainAttack(board, target, shield)
            tree = plain.search(plain.begin(), 3)[1]
            text = write_tree(tree)
            self.assertEqual(read_tree(text=text), tree)
            self.assertEqual((tree_pairs(tree), tree_pairs(tree=tree)), (text.count("("), text.count("(")))
            self.check_kinds(read_tree(text))
        self.assertEqual(read_tree(""), [])
        self.assertEqual(read_tree("b(c())c(b()-())-()"),
                         [("b", [("c", [])]), ("c", [("b", []), ("-", [])]), ("-", [])])

    def check_kinds(self, tree):
        self.assertIs(tree.__class__, list)
        for pair in tree:
            self.assertIs(pair.__class__, tuple)
            self.check_kinds(pair[1])

    def test_all_short_texts(self):
        for many in range(7):
            for letters in itertools.product("a1-()", repeat=many):
                self.check_text("".join(letters))
        for many in range(5):
            for letters in itertools.product("z(). \n", repeat=many):
                self.check_text("".join(letters))

    def check_text(self, text):
        at = first_fault(text)
        if at is None:
            self.assertEqual(write_tree(read_tree(text)), text)
        else:
            self.refused(BadTree(at), read_tree, text)

    def test_faults(self):
        told = {"a": 1, "a(": 2, "a()b": 4, "a()b(": 5, "-": 1, "-a": 1, "--": 1, "(": 0, ")": 0, "a)": 1, "a())": 3,
                "a()(": 3, "1()": 0, "A()": 0, "aB()": 1, "a ()": 1, " a()": 0, "a( )": 2, "a()\n": 3, "\n": 0,
                "a(b()": 5, "a(b())x": 7, "a(b())x.": 7, "abcdef": 6, "abcdefg": 6, "abcdefg()": 6, "abcdef1()": 6,
                "a1b2c3()abcdefg()": 14, "-()-": 4, "a.()": 1, "a(())": 2, "a[]": 1, "a-()": 1, "a(-": 3, "a(-)": 3}
        for text, at in told.items():
            self.refused(BadTree(at), read_tree, text)

    def test_thirteen_brackets_may_be_open(self):
        self.assertEqual(tree_depth(read_tree("a(" * 13 + ")" * 13)), 13)
        self.assertEqual(tree_depth(read_tree("a1(" * 13 + ")" * 13 + "b()")), 13)
        for inside in ("a", "a()", "-()", "a(b())", "(", "x.", " "):
            self.refused(BadTree(26), read_tree, "a(" * 13 + inside + ")" * 13)
        self.refused(BadTree(29), read_tree, "a(" * 12 + "-()-(-())" + ")" * 12 + "a(")
        self.refused(BadTree(26), read_tree, "a(" * 13)
        self.assertEqual(tree_pairs(read_tree("a(" * 13 + ")" * 12 + "b()" + ")")), 14)

    def test_two_thousand_pairs(self):
        self.assertEqual(tree_pairs(read_tree("a()" * 2000)), 2000)
        self.assertEqual(len(read_tree("a()" * 2000)), 2000)
        for more in ("a()", "-()", "a", "-", "(", "x.", " ", ")"):
            self.refused(BadTree(6000), read_tree, "a()" * 2000 + more)
        self.refused(BadTree(5999), read_tree, "a()" * 1999 + "a(b())")
        self.assertEqual(tree_pairs(read_tree("a()" * 1998 + "a(b())")), 2000)
        self.refused(BadTree(5999), read_tree, "a()" * 1998 + "a(b()c())")

    def test_pairs_and_depth(self):
        tree = [("b", [("c", [])]), ("c", [("b", [("d", [("-", [])])]), ("-", [])]), ("-", [])]
        self.assertEqual((tree_pairs(tree), tree_depth(tree)), (8, 4))
        self.assertEqual((tree_pairs([]), tree_depth([])), (0, 0))
        self.assertEqual((tree_pairs([("x", [])]), tree_depth(tree=[("x", [])])), (1, 1))
        self.assertEqual(tree_depth(chain_tree(["a"] * 13)), 13)

    def test_a_list_that_stands_at_several_places_counts_at_each(self):
        shared = [("a", [("b", [])])]
        tree = [("c", shared), ("d", shared), ("e", [("f", shared)])]
        self.assertEqual((tree_pairs(tree), tree_depth(tree)), (10, 4))
        self.assertEqual(write_tree(tree), "c(a(b()))d(a(b()))e(f(a(b())))")

    def test_told_trees_are_new(self):
        read_tree("a()").append("x")
        read_tree("a(b())")[0][1].append("x")
        self.assertEqual(read_tree("a(b())"), [("a", [("b", [])])])
        self.assertEqual(read_tree(""), [])


if __name__ == "__main__":
    unittest.main()
