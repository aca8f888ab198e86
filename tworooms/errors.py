"""All errors of the program, in the order in which the one to raise is chosen."""


class TworoomsError(ValueError):
    """The base class of all errors of the program."""


class BadNumber(TworoomsError):
    """A number argument is no integer or outside its bounds."""

    def __init__(self, what, value):
        self.what = what
        self.value = value


class NoHand(TworoomsError):
    """A text passed as a hand is no hand."""

    def __init__(self, hand):
        self.hand = hand


class BadName(TworoomsError):
    """A text has not the form of a place name."""

    def __init__(self, name):
        self.name = name


class TooMany(TworoomsError):
    """There are more of something than the most that is allowed."""

    def __init__(self, what, most):
        self.what = what
        self.most = most


class NoEntry(TworoomsError):
    """There is no entry of that name or number."""

    def __init__(self, entry):
        self.entry = entry


class NoPlace(TworoomsError):
    """A text passed as a place is no place of the web."""

    def __init__(self, place):
        self.place = place


class SelfTie(TworoomsError):
    """A tie joins a place to itself."""

    def __init__(self, place):
        self.place = place


class Repeated(TworoomsError):
    """Something is there twice that may be there once."""

    def __init__(self, what):
        self.what = what


class BadSigns(TworoomsError):
    """The signs of a board are wrong at an index."""

    def __init__(self, at):
        self.at = at


class BadText(TworoomsError):
    """A word of a text is not allowed at its place."""

    def __init__(self, line, word):
        self.line = line
        self.word = word


class BadTree(TworoomsError):
    """A text is no tree from an index on."""

    def __init__(self, at):
        self.at = at


class BadMap(TworoomsError):
    """A mapping is not of the kind that is needed."""


class NotRight(TworoomsError):
    """A company of the board has no free neighbour."""

    def __init__(self, place):
        self.place = place


class NoStone(TworoomsError):
    """A place passed as a company's place bears no stone."""

    def __init__(self, place):
        self.place = place


class Stands(TworoomsError):
    """A company stands although it must not."""

    def __init__(self, place):
        self.place = place


class Falls(TworoomsError):
    """A company does not stand although it must."""

    def __init__(self, place):
        self.place = place


class GameOver(TworoomsError):
    """The game is over."""


class Occupied(TworoomsError):
    """A laying on a place that bears a stone."""

    def __init__(self, place):
        self.place = place


class SelfTaking(TworoomsError):
    """A laying that would leave its own company without a free neighbour."""

    def __init__(self, place):
        self.place = place


class ComesBack(TworoomsError):
    """A laying that would lead to a board that stood in the game."""

    def __init__(self, place):
        self.place = place


class BadDeed(TworoomsError):
    """A deed of a list is refused."""

    def __init__(self, at, reason):
        self.at = at
        self.reason = reason


class NothingDone(TworoomsError):
    """There is nothing to take back."""


class BadRow(TworoomsError):
    """A row of a book is refused at a word."""

    def __init__(self, word, reason):
        self.word = word
        self.reason = reason
