"""Branches: several games with one start, held as a tree, and their text form."""

from tworooms.boards import write_board
from tworooms.errors import BadNumber, BadText, NoEntry, TooMany
from tworooms.forms import end_line
from tworooms.games import Game
from tworooms.names import MOST_NODES, is_number, read_number, split_words
from tworooms.records import game_in, is_let


class Branches:
    """Games with one first board and one first hand; growing changes the object."""

    def __init__(self, board, first):
        # One game for each node, so that no path is played again.
        self._games = [Game(board, first)]
        self._first_board = board
        self._first_hand = first
        self._parents = [None]
        self._last_deeds = [None]

    @property
    def first_board(self):
        """The board that all games began with."""
        return self._first_board

    @property
    def first_hand(self):
        """The hand that makes the first deed of all games."""
        return self._first_hand

    def grow(self, node, deed):
        """The child of the node with this deed; it is made if it is not there."""
        self._check_node(node)
        child = self._child_by(node, deed)
        if child is not None:
            return child
        if len(self._games) > MOST_NODES:
            raise TooMany("nodes", MOST_NODES)
        game = self._games[node].twin()
        game.play(deed)
        self._games.append(game)
        self._parents.append(node)
        self._last_deeds.append(deed)
        return len(self._games) - 1

    def parent(self, node):
        """The parent of the node, or None for node 0."""
        self._check_node(node)
        return self._parents[node]

    def deed(self, node):
        """The deed that leads from its parent to the node, or None for node 0."""
        self._check_node(node)
        return self._last_deeds[node]

    def children(self, node):
        """The children of the node, ascending."""
        self._check_node(node)
        return self._children_of(node)

    def path(self, node):
        """The deeds of the node's game."""
        self._check_node(node)
        return self._games[node].deeds

    def game_at(self, node):
        """The node's game, as a new one."""
        self._check_node(node)
        return self._games[node].twin()

    def leaves(self):
        """The nodes without children, ascending."""
        return [node for node in range(len(self._games)) if node not in self._parents]

    def meeting(self, one, two):
        """The last node that is on the way from node 0 to both nodes."""
        check_kind("one", one)
        check_kind("two", two)
        self._check_there(one)
        self._check_there(two)
        left = one
        right = two
        # A parent is an earlier node, so the later of two nodes is not on the way to the other one.
        while left != right:
            if left > right:
                left = self._parents[left]
            else:
                right = self._parents[right]
        return left

    def _check_node(self, node):
        check_kind("node", node)
        self._check_there(node)

    def _check_there(self, node):
        if not 0 <= node < len(self._games):
            raise NoEntry(node)

    def _children_of(self, node):
        return [child for child, parent in enumerate(self._parents) if parent == node]

    def _child_by(self, node, deed):
        """The child of the node with this deed, or None."""
        for child in self._children_of(node):
            if self._last_deeds[child] == deed:
                return child
        return None

    def __len__(self):
        return len(self._games)

    def __contains__(self, x):
        return is_number(x) and 0 <= x < len(self._games)

    def __eq__(self, other):
        return (isinstance(other, Branches) and self._first_board == other._first_board
                and self._first_hand == other._first_hand and self._parents == other._parents
                and self._last_deeds == other._last_deeds)


def check_kind(what, node):
    """Refuses a node that is no number, under the name of its parameter."""
    if not is_number(node):
        raise BadNumber(what, node)


def write_branches(branches):
    """The text form of branches."""
    start = f"{write_board(branches.first_board)}\nfirst {branches.first_hand}"
    nodes = [f"node {branches.parent(node)} {branches.deed(node)}" for node in range(1, len(branches))]
    return "\n".join([start] + nodes)


def read_branches(text):
    """The branches that the text writes."""
    lines = split_words(text)
    game = game_in(lines)
    branches = Branches(game.first_board, game.first_hand)
    for number in range(5, len(lines) + 1):
        read_node(branches, lines, number)
    return branches


def read_node(branches, lines, number):
    """Adds the node that the line of this number writes."""
    words = lines[number - 1]
    if len(branches) > MOST_NODES or words[0] != "node":
        raise BadText(number, 1)
    parent = parent_in(branches, words)
    if parent is None:
        raise BadText(number, 2)
    if len(words) < 3 or not is_new_deed(branches, parent, words[2]):
        raise BadText(number, 3)
    end_line(lines, number, 3)
    branches.grow(parent, words[2])


def parent_in(branches, words):
    """The node that word 2 writes, or None."""
    if len(words) < 2:
        return None
    parent = read_number(words[1])
    if parent is None or parent not in branches:
        return None
    return parent


def is_new_deed(branches, parent, deed):
    """Whether the deed is let in the parent's game and no child of the parent has it."""
    taken = [branches.deed(child) for child in branches.children(parent)]
    return deed not in taken and is_let(branches.game_at(parent), deed)
