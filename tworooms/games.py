"""Games: a first board, a first hand, and deeds by turns."""

from tworooms.companies import check_right
from tworooms.errors import ComesBack, GameOver, NoPlace, NothingDone, Occupied, SelfTaking
from tworooms.laying import try_laying
from tworooms.names import MOST_DEEDS, PASS, check_hand, other_hand


class Game:
    """A game; playing and undoing change it."""

    def __init__(self, board, first):
        check_hand(first)
        check_right(board)
        self._first_board = board
        self._first_hand = first
        self._deeds = []
        # The boards after 0, 1, .. deeds, so that undo needs to build none again.
        self._boards = [board]

    @property
    def board(self):
        """The present board."""
        return self._boards[-1]

    @property
    def first_board(self):
        """The board that the game began with."""
        return self._first_board

    @property
    def first_hand(self):
        """The hand that makes the first deed."""
        return self._first_hand

    @property
    def turn(self):
        """The hand to move, or None if the game is over."""
        if self.over:
            return None
        if len(self._deeds) % 2 == 0:
            return self._first_hand
        return other_hand(self._first_hand)

    @property
    def over(self):
        """Whether the last two deeds are passes or the most deeds are made."""
        return len(self._deeds) >= MOST_DEEDS or self._deeds[-2:] == [PASS, PASS]

    @property
    def deeds(self):
        """The deeds, in order."""
        return list(self._deeds)

    @property
    def stood(self):
        """The signs of the boards that stood, in the order in which they first stood."""
        # A dict keeps the order in which its keys were added, each once.
        return list({board.signs: True for board in self._boards})

    def fault(self, deed):
        """The reason for which the deed is refused now, or None if it is let."""
        fault, _, _ = self._look_at(deed)
        return fault

    def play(self, deed):
        """Makes the deed; the places whose stones it took off, ascending."""
        fault, after, taken = self._look_at(deed)
        refuse(fault, deed)
        self._boards.append(after)
        self._deeds.append(deed)
        return taken

    def open_deeds(self):
        """The deeds that are let now: the places ascending, then the pass."""
        deeds = self.board.web.places + [PASS]
        return [deed for deed in deeds if self.fault(deed) is None]

    def undo(self):
        """Takes back the last deed and returns it."""
        if len(self._deeds) == 0:
            raise NothingDone()
        self._boards.pop()
        return self._deeds.pop()

    def twin(self):
        """A new equal game that shares nothing with this one."""
        twin = Game(self._first_board, self._first_hand)
        twin._deeds = list(self._deeds)
        twin._boards = list(self._boards)
        return twin

    def _look_at(self, deed):
        """The fault of the deed, the board after it, and the places whose stones it takes off."""
        check_deed(self.board.web, deed)
        if self.over:
            return "over", self.board, []
        if deed == PASS:
            return None, self.board, []
        fault, after, taken = try_laying(self.board, self.turn, deed)
        if fault is None and after.signs in [board.signs for board in self._boards]:
            return "comes-back", self.board, []
        return fault, after, taken

    def __len__(self):
        return len(self._deeds)

    def __iter__(self):
        return iter(self._deeds)

    def __eq__(self, other):
        return (isinstance(other, Game) and self._first_board == other._first_board
                and self._first_hand == other._first_hand and self._deeds == other._deeds)


def check_deed(web, deed):
    """Refuses a text that is no place of the web and no pass."""
    if deed != PASS and deed not in web:
        raise NoPlace(deed)


def refuse(fault, deed):
    """Raises the error of the fault of a deed, if there is a fault."""
    if fault == "over":
        raise GameOver()
    if fault == "occupied":
        raise Occupied(deed)
    if fault == "self-taking":
        raise SelfTaking(deed)
    if fault == "comes-back":
        raise ComesBack(deed)
