"""The errors of the package."""


class ClockError(ValueError):
    """What is wrong with a value, or cannot be done with it."""


class BadBack(ClockError):
    """Neither late nor once."""


class BadBreaks(ClockError):
    """No list of breaks."""

    def __init__(self, at):
        super().__init__("no list of breaks")
        self.at = at


class BadCases(ClockError):
    """No list of cases."""

    def __init__(self, at):
        super().__init__("no list of cases")
        self.at = at


class BadFront(ClockError):
    """No front."""


class BadFronts(ClockError):
    """No list of fronts."""

    def __init__(self, at):
        super().__init__("no list of fronts")
        self.at = at


class BadGoals(ClockError):
    """No ascending tuple of states."""


class BadJournal(ClockError):
    """No journal."""

    def __init__(self, at):
        super().__init__("no journal")
        self.at = at


class BadLap(ClockError):
    """No lap."""


class BadLetter(ClockError):
    """No letter that fits."""


class BadLettering(ClockError):
    """No lettering."""


class BadLetters(ClockError):
    """No ascending tuple of letters."""


class BadLines(ClockError):
    """No number of lines."""


class BadLot(ClockError):
    """No lot."""


class BadMatrix(ClockError):
    """No matrix."""


class BadMean(ClockError):
    """No fraction."""


class BadMeans(ClockError):
    """No mean front."""


class BadMemory(ClockError):
    """No memory."""

    def __init__(self, part):
        super().__init__("no memory")
        self.part = part


class BadMonitor(ClockError):
    """No monitor."""

    def __init__(self, part):
        super().__init__("no monitor")
        self.part = part


class BadName(ClockError):
    """No name that fits."""


class BadNames(ClockError):
    """No dict of names that fits."""


class BadNumber(ClockError):
    """No number that fits."""


class BadPacking(ClockError):
    """No packing that fits."""


class BadPair(ClockError):
    """No pair."""


class BadPairs(ClockError):
    """No list of pairs."""

    def __init__(self, at):
        super().__init__("no list of pairs")
        self.at = at


class BadPaper(ClockError):
    """No paper that holds."""


class BadPath(ClockError):
    """No path that fits."""


class BadPieces(ClockError):
    """No list of pieces."""

    def __init__(self, at):
        super().__init__("no list of pieces")
        self.at = at


class BadPlace(ClockError):
    """No place of the program."""


class BadPrice(ClockError):
    """No price."""


class BadPrices(ClockError):
    """No list of prices."""

    def __init__(self, at):
        super().__init__("no list of prices")
        self.at = at


class BadProgram(ClockError):
    """No program."""

    def __init__(self, part):
        super().__init__("no program")
        self.part = part


class BadReading(ClockError):
    """No reading."""


class BadRing(ClockError):
    """No ring."""


class BadRule(ClockError):
    """Neither last nor first."""


class BadState(ClockError):
    """No state."""


class BadTable(ClockError):
    """No table."""


class BadTale(ClockError):
    """No tale."""

    def __init__(self, at):
        super().__init__("no tale")
        self.at = at


class BadText(ClockError):
    """No text that can be read."""

    def __init__(self, row):
        super().__init__("no text that can be read")
        self.row = row


class BadWays(ClockError):
    """No number of ways."""


class BadWord(ClockError):
    """No word that fits."""


class Barred(ClockError):
    """A letter that cannot be read here."""

    def __init__(self, letter):
        super().__init__("a letter that cannot be read here")
        self.letter = letter


class NoBlock(ClockError):
    """No block is begun."""


class NoLetter(ClockError):
    """A letter that is missing."""

    def __init__(self, letter):
        super().__init__("a letter that is missing")
        self.letter = letter


class NoName(ClockError):
    """A name under which nothing stands."""

    def __init__(self, name):
        super().__init__("a name under which nothing stands")
        self.name = name


class NotAhead(ClockError):
    """The one price is not ahead of the other one."""


class NotOpen(ClockError):
    """A word that is not open."""

    def __init__(self, at):
        super().__init__("a word that is not open")
        self.at = at


class NothingDone(ClockError):
    """No deed stands."""


class TooMany(ClockError):
    """More than there may be."""

    def __init__(self, most):
        super().__init__("more than there may be")
        self.most = most
