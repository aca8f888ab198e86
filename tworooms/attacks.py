"""What trees and searches share: an attack on a target place, and the games that it is played in."""

from tworooms.companies import check_stone, free_neighbours
from tworooms.errors import NoPlace, NoStone
from tworooms.games import Game
from tworooms.names import MOST_DEPTH, check_hand, check_number, other_hand

MOST_FREE = 2


class Attack:
    """An attack on the company of a target place, perhaps with a shield; it never changes."""

    def __init__(self, board, target, shield):
        self._board = board
        self._target = target
        self._shield = shield
        self._defender = board.hand_at(target)

    @property
    def attacker(self):
        """The hand that attacks."""
        return other_hand(self._defender)

    def new_game(self, first):
        """The game that the attack begins with; the attacker is the first hand if none is told."""
        if first is None:
            return Game(self._board, self.attacker)
        return Game(self._board, first)

    def is_won(self, game):
        """Whether the target no longer bears a stone of the defender."""
        return game.board.hand_at(self._target) != self._defender

    def has_failed(self, game):
        """Whether there is a shield and it no longer bears a stone of the attacker."""
        return self._shield is not None and game.board.hand_at(self._shield) != self.attacker

    def chase_deeds(self, game):
        """The layings that a chase looks at on the attacker's turn, ascending.

        There are none if the company of the target has too many free neighbours.
        """
        free = free_neighbours(game.board, self._target)
        if len(free) > MOST_FREE:
            return []
        return [place for place in free if game.fault(place) is None]


def attack_on(board, place, first, depth, shield):
    """The attack on the place; refuses what is no depth, no first hand, no target or no shield."""
    check_number("depth", depth, 0, MOST_DEPTH)
    if first is not None:
        check_hand(first)
    if place not in board.web:
        raise NoPlace(place)
    if shield is not None and shield not in board.web:
        raise NoPlace(shield)
    check_stone(board, place)
    attack = Attack(board, place, shield)
    if shield is not None and board.hand_at(shield) != attack.attacker:
        raise NoStone(shield)
    return attack


def game_after(game, deed):
    """A new game with one more deed, which is let."""
    after = game.twin()
    after.play(deed)
    return after
