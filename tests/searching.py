"""A plain second way to search attacks and to judge trees, by the words of points [64] to [73]."""

from helper import PlainGame, other, plain_companies, plain_free


class Spent(Exception):
    """The search looked at more positions than its budget."""


class PlainAttack:
    """An attack on a target, with or without a shield, in games that keep their boards as texts."""

    def __init__(self, board, target, shield=None):
        self.board, self.target, self.shield = board, target, shield
        self.defender = board.hand_at(target)
        self.looked, self.budget = 0, float("inf")

    def begin(self, first=None):
        return PlainGame(self.board, first or other(self.defender))

    def won(self, game):
        return game.signs[self.target] != self.defender[0]

    def failed(self, game):
        return self.shield is not None and game.signs[self.shield] != other(self.defender)[0]

    def attacks(self, game):
        return game.hand() != self.defender

    def free(self, game):
        companies = plain_companies(game.web, game.signs, self.defender[0])
        return plain_free(game.web, game.signs, next(row for row in companies if self.target in row))

    def count(self):
        """Step 1 of point [69]."""
        self.looked += 1
        if self.looked > self.budget:
            raise Spent

    def answer(self, kind, first, depth, budget=float("inf")):
        """The answer of points [69], [71] and [73]: verdict, tree, looked."""
        self.looked, self.budget = 0, budget
        search = {"attack": self.search, "chase": self.chase, "passing": self.passing}[kind]
        try:
            taken, tree = search(self.begin(first), depth)
        except Spent:
            return "open", [], budget
        finally:
            self.budget = float("inf")
        kept = "escaped" if kind == "chase" else "kept"
        return "taken" if taken else kept, tree, self.looked

    def passing(self, game, left):
        """Point [73]: (whether it is taken, tree)."""
        return self.search(game, left, passing=True)

    def search(self, game, left, passing=False):
        """Point [69]: (whether it is taken, tree)."""
        self.count()
        if game.over() or left == 0:
            return False, []
        mine, rows = self.attacks(game), []
        for deed in game.open_deeds() if mine or not passing else ["-"]:
            after = game.after(deed)
            if (mine and self.won(after)) or (not mine and self.failed(after)):
                return mine, [(deed, [])]
            taken, answer = self.search(after, left - 1, passing)
            if taken == mine:
                return taken, [(deed, answer)]
            rows.append((deed, answer))
        return not mine, rows

    def chase(self, game, left):
        """Point [71]: (whether it is taken, tree)."""
        self.count()
        if game.over() or left == 0 or (self.attacks(game) and len(self.free(game)) > 2):
            return False, []
        mine, rows = self.attacks(game), []
        for deed in [deed for deed in game.open_deeds() if not mine or deed in self.free(game)]:
            after = game.after(deed)
            if mine and self.won(after):
                return True, [(deed, [])]
            taken, answer = self.chase(after, left - 1)
            if taken == mine:
                return taken, [(deed, answer)]
            rows.append((deed, answer))
        return not mine, rows

    def is_taken(self, game, left, tree):
        """Point [66]."""
        if game.over() or left < 1:
            return False
        deeds = [deed for deed, _ in tree]
        if self.attacks(game):
            if len(deeds) != 1 or deeds[0] not in game.open_deeds():
                return False
            after = game.after(deeds[0])
            return tree[0][1] == [] if self.won(after) else self.is_taken(after, left - 1, tree[0][1])
        return deeds == game.open_deeds() and all(
            not self.failed(game.after(deed)) and self.is_taken(game.after(deed), left - 1, rest)
            for deed, rest in tree)

    def is_kept(self, game, left, tree):
        """Point [67]."""
        if tree == []:
            return game.over() or left == 0
        if game.over() or left < 1:
            return False
        deeds = [deed for deed, _ in tree]
        if self.attacks(game):
            return deeds == game.open_deeds() and all(
                not self.won(game.after(deed)) and self.is_kept(game.after(deed), left - 1, rest)
                for deed, rest in tree)
        if len(deeds) != 1 or deeds[0] not in game.open_deeds():
            return False
        after = game.after(deeds[0])
        return tree[0][1] == [] if self.failed(after) else self.is_kept(after, left - 1, tree[0][1])

    def is_escape(self, game, left, tree):
        """Point [72]."""
        deeds = [deed for deed, _ in tree]
        if game.over() or left == 0:
            return tree == []
        if self.attacks(game):
            free = self.free(game)
            if len(free) > 2:
                return tree == []
            return deeds == [deed for deed in game.open_deeds() if deed in free] and all(
                not self.won(game.after(deed)) and self.is_escape(game.after(deed), left - 1, rest)
                for deed, rest in tree)
        return (len(deeds) == 1 and deeds[0] in game.open_deeds()
                and self.is_escape(game.after(deeds[0]), left - 1, tree[0][1]))


def changed_trees(tree):
    """Trees that differ from the tree at one place."""
    yield tree + [("-", [])]
    yield [("a", [])] + tree
    yield list(reversed(tree))
    for at, (deed, rest) in enumerate(tree):
        before, behind = tree[:at], tree[at + 1:]
        yield before + behind
        yield before + [(deed, rest), (deed, rest)] + behind
        yield before + [(deed, [])] + behind
        for wrong in ("z", "", "-", "b"):
            yield before + [(wrong, rest)] + behind
        for changed in changed_trees(rest):
            yield before + [(deed, changed)] + behind
