"""All errors that the package raises."""


class SettleError(ValueError):
    """The base class of all errors of this package."""


class InvalidText(SettleError):
    """What should be a text is none."""


class InvalidTable(SettleError):
    """What should be a table is none."""


class InvalidSign(SettleError):
    """What should be a sign is none that fits."""


class InvalidIndex(SettleError):
    """What should be an index is none that fits."""


class InvalidStanding(SettleError):
    """What should be a standing is none."""


class InvalidAnswers(SettleError):
    """What should be answers are none."""


class InvalidNumber(SettleError):
    """What should be a number is none that fits."""


class TooMany(SettleError):
    """There is more than a limit allows."""

    def __init__(self, limit):
        self.limit = limit


class InvalidRow(SettleError):
    """What should be a row is none."""


class InvalidSigns(SettleError):
    """What should be a row of signs is none."""


class InvalidStops(SettleError):
    """What should be stops of a text are none."""


class InvalidMends(SettleError):
    """What should be mends of a text are none."""


class InvalidPairs(SettleError):
    """What should be a program of pairs is none."""


class Endless(SettleError):
    """A program has a word without a shape."""


class UnlikeLetters(SettleError):
    """Two programs have unlike letters."""


class InvalidWord(SettleError):
    """What should be a word of a program is none."""


class InvalidLetter(SettleError):
    """What should be a letter of a program is none."""


class InvalidThings(SettleError):
    """What should be a row of things is none."""


class InvalidValues(SettleError):
    """What should be values are none."""


class InvalidChoices(SettleError):
    """What should be choices are none."""


class InvalidCase(SettleError):
    """What should be a case of choices is none."""


class InvalidRowCode(SettleError):
    """What should be a code for choices is none."""


class InvalidUses(SettleError):
    """What should be a case of rules is none."""


class Refused(SettleError):
    """A rule is refused, with the word that tells why."""

    def __init__(self, word):
        self.word = word


class InvalidParagraph(SettleError):
    """What should be a paragraph is none."""


class InvalidCosts(SettleError):
    """What should be costs are none."""


class InvalidWay(SettleError):
    """What should be a way is none that fits."""


class InvalidKey(SettleError):
    """What should be a key is none."""


class InvalidLot(SettleError):
    """What should be a lot of items is none."""


class InvalidRoutine(SettleError):
    """What should be a routine is none."""


class InvalidStack(SettleError):
    """What should be a stack is none."""


class InvalidMarks(SettleError):
    """What should be a row of marks is none."""


class NeverRests(SettleError):
    """A routine does not rest on some stack."""


class InvalidDeeds(SettleError):
    """What should be a row of deeds is none."""


class InvalidState(SettleError):
    """What should be a state is none."""


class NoGroup(SettleError):
    """A deed asks for a group where just one stands."""


class InvalidStrip(SettleError):
    """What should be a strip is none."""


class InvalidPassage(SettleError):
    """What should be a passage is none."""


class InvalidWidth(SettleError):
    """What should be a width is none."""


class InvalidWalk(SettleError):
    """What should be a walk is none."""


class InvalidStep(SettleError):
    """What should be an index of a step is none."""


class InvalidFile(SettleError):
    """What should be a file of moves is none."""


class InvalidSpot(SettleError):
    """What should be a spot is none."""


class InvalidLine(SettleError):
    """What should be one line is none."""


class CannotEnter(SettleError):
    """A reader cannot take one line more."""


class NothingToUndo(SettleError):
    """A reader has no line to take back."""


class NothingToRedo(SettleError):
    """A reader has no line to enter again."""
