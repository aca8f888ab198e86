"""Trees of deeds: the certificates that an attack wins or does not, and their text form."""

from tworooms.attacks import attack_on, game_after
from tworooms.errors import BadTree
from tworooms.names import DIGITS, LETTERS, LONGEST_NAME, PASS
from tworooms.records import is_let

MOST_OPEN = 13
MOST_PAIRS = 2000


def is_taken_tree(board, place, tree, *, first=None, depth, shield=None):
    """Whether the tree shows that the attack on the place is won within the depth."""
    attack = attack_on(board, place, first, depth, shield)
    return is_taken(attack, attack.new_game(first), depth, tree)


def is_kept_tree(board, place, tree, *, first=None, depth, shield=None):
    """Whether the tree shows that the attack on the place is not won within the depth."""
    attack = attack_on(board, place, first, depth, shield)
    return is_kept(attack, attack.new_game(first), depth, tree)


def is_escape_tree(board, place, tree, *, depth):
    """Whether the tree shows that the company of the place escapes from a chase of the depth."""
    attack = attack_on(board, place, None, depth, None)
    return is_escape(attack, attack.new_game(None), depth, tree)


def write_tree(tree):
    """The text form of a tree."""
    return "".join([f"{deed}({write_tree(answer)})" for deed, answer in tree])


def read_tree(text):
    """The tree that the text writes."""
    tree = []
    open_trees = [tree]
    pairs = 0
    at = 0
    while at < len(text):
        if text[at] == ")" and len(open_trees) > 1:
            open_trees.pop()
            at += 1
        elif len(open_trees) > MOST_OPEN or pairs >= MOST_PAIRS:
            raise BadTree(at)
        else:
            end = end_of_deed(text, at)
            answer = []
            open_trees[-1].append((text[at:end], answer))
            open_trees.append(answer)
            pairs += 1
            at = end + 1
    if len(open_trees) > 1:
        raise BadTree(at)
    return tree


def tree_pairs(tree):
    """The number of pairs in the tree, those of the trees in it included."""
    return sum([1 + tree_pairs(answer) for _, answer in tree])


def tree_depth(tree):
    """The most pairs that stand one in another."""
    return max([0] + [1 + tree_depth(answer) for _, answer in tree])


def is_taken(attack, game, left, tree):
    """Whether the tree is a taken tree of the game and so many deeds."""
    if game.over or left == 0:
        return False
    if game.turn == attack.attacker:
        return has_one_let_deed(game, tree) and is_taken_behind(attack, game, left, tree[0])
    return deeds_of(tree) == game.open_deeds() and all([is_taken_behind(attack, game, left, pair) for pair in tree])


def is_taken_behind(attack, game, left, pair):
    """Whether the deed of the pair wins the attack, or its tree is a taken tree of the game after the deed."""
    deed, answer = pair
    after = game_after(game, deed)
    if attack.is_won(after):
        return len(answer) == 0
    return not attack.has_failed(after) and is_taken(attack, after, left - 1, answer)


def is_kept(attack, game, left, tree):
    """Whether the tree is a kept tree of the game and so many deeds."""
    if game.over or left == 0:
        return len(tree) == 0
    if game.turn == attack.attacker:
        return deeds_of(tree) == game.open_deeds() and all([is_kept_behind(attack, game, left, pair) for pair in tree])
    return has_one_let_deed(game, tree) and is_kept_behind(attack, game, left, tree[0])


def is_kept_behind(attack, game, left, pair):
    """Whether the deed of the pair lets the attack fail, or its tree is a kept tree of the game after the deed."""
    deed, answer = pair
    after = game_after(game, deed)
    if attack.has_failed(after):
        return len(answer) == 0
    return not attack.is_won(after) and is_kept(attack, after, left - 1, answer)


def is_escape(attack, game, left, tree):
    """Whether the tree is an escape tree of the game and so many deeds."""
    if game.over or left == 0:
        return len(tree) == 0
    if game.turn != attack.attacker:
        return has_one_let_deed(game, tree) and is_escape_behind(attack, game, left, tree[0])
    right_deeds = deeds_of(tree) == attack.chase_deeds(game)
    return right_deeds and all([is_escape_behind(attack, game, left, pair) for pair in tree])


def is_escape_behind(attack, game, left, pair):
    """Whether the attack is not won by the deed of the pair and its tree is an escape tree of the game then."""
    deed, answer = pair
    after = game_after(game, deed)
    return not attack.is_won(after) and is_escape(attack, after, left - 1, answer)


def deeds_of(tree):
    """The deeds of the pairs of the tree itself, in order."""
    return [deed for deed, _ in tree]


def has_one_let_deed(game, tree):
    """Whether the tree has exactly one pair and its deed is let."""
    return len(tree) == 1 and is_let(game, tree[0][0])


def end_of_deed(text, at):
    """The index of the bracket behind the deed that begins at the index."""
    end = at + 1
    if text[at] in LETTERS:
        while end < len(text) and end - at < LONGEST_NAME and (text[end] in LETTERS or text[end] in DIGITS):
            end += 1
    elif text[at] != PASS:
        raise BadTree(at)
    if end == len(text) or text[end] != "(":
        raise BadTree(end)
    return end
