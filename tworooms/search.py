"""Searches: whether the attack on a company wins within some deeds, looking at a bounded number of positions."""

from tworooms.attacks import attack_on
from tworooms.companies import check_right, company_names
from tworooms.names import MOST_BUDGET, MOST_DEPTH, PASS, check_number


def attack(board, place, *, first=None, depth=4, budget=200, shield=None):
    """The answer of the search for an attack on the place: (verdict, tree, number of positions looked at)."""
    check_bounds(depth, budget)
    target = attack_on(board, place, first, depth, shield)
    return Search(target, target.new_game(first), budget).answer(depth, "kept")


def chase(board, place, *, depth=8, budget=200):
    """The answer of the search in which the attacker lays only on the last free neighbours of the company."""
    check_bounds(depth, budget)
    target = attack_on(board, place, None, depth, None)
    return Chase(target, target.new_game(None), budget).answer(depth, "escaped")


def passing_search(board, place, *, depth=5, budget=200):
    """The answer of the search in which the defender only passes."""
    check_bounds(depth, budget)
    target = attack_on(board, place, None, depth, None)
    return PassingSearch(target, target.new_game(None), budget).answer(depth, "kept")


def attack_all(board, hand, *, depth=2, budget=200):
    """The name of each company of the hand with the verdict of the attack on it, ascending by name."""
    check_bounds(depth, budget)
    names = company_names(board, hand)
    check_right(board)
    return [(name, verdict_on(board, name, depth, budget)) for name in names]


def verdict_on(board, name, depth, budget):
    """The verdict of the attack on the company of this name."""
    verdict, _, _ = attack(board, name, depth=depth, budget=budget)
    return verdict


def check_bounds(depth, budget):
    """Refuses what is no depth, then what is no budget."""
    check_number("depth", depth, 0, MOST_DEPTH)
    check_number("budget", budget, 1, MOST_BUDGET)


class Search:
    """A search in one game, which plays its deeds, takes them back, and counts the positions that it looks at."""

    def __init__(self, target, game, budget):
        self._target = target
        self._game = game
        self._budget = budget
        self._looked = 0

    def answer(self, depth, word):
        """The verdict, the tree and the number of positions; the word is the verdict of an attack that is not won."""
        found = self.look(depth)
        if found is None:
            return ("open", [], self._looked)
        won, tree = found
        return ("taken" if won else word, tree, self._looked)

    def look(self, left):
        """Whether the attack is won within so many deeds, and the tree that shows it; None if the budget is spent."""
        if self._looked == self._budget:
            return None
        self._looked += 1
        if self._game.over or left == 0:
            return (False, [])
        attacks = self.is_attackers_turn()
        rows = []
        for deed in self.choices():
            found = self.look_behind(deed, left - 1)
            if found is None:
                return None
            won, tree = found
            # The attacker wants the attack to be won and the defender does not, so one such deed is enough.
            if won == attacks:
                return (won, [(deed, tree)])
            rows.append((deed, tree))
        return (not attacks, rows)

    def look_behind(self, deed, left):
        """The same for the game after the deed; it is decided at once if the deed wins the attack or lets it fail."""
        self._game.play(deed)
        if self._target.is_won(self._game):
            found = (True, [])
        elif self._target.has_failed(self._game):
            found = (False, [])
        else:
            found = self.look(left)
        self._game.undo()
        return found

    def is_attackers_turn(self):
        """Whether the hand to move is the attacker."""
        return self._game.turn == self._target.attacker

    def choices(self):
        """The deeds that are gone through for the hand to move, in order."""
        return self._game.open_deeds()


class Chase(Search):
    """A search in which the attacker lays only on the free neighbours of a company that has at most two."""

    def choices(self):
        """The deeds that are gone through for the hand to move, in order."""
        if self.is_attackers_turn():
            return self._target.chase_deeds(self._game)
        return self._game.open_deeds()


class PassingSearch(Search):
    """A search in which the defender only passes."""

    def choices(self):
        """The deeds that are gone through for the hand to move, in order."""
        if self.is_attackers_turn():
            return self._game.open_deeds()
        return [PASS]
