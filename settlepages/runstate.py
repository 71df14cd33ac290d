"""What a run of a text holds while it goes on, and how it ends."""

from settlepages.cutting import next_piece
from settlepages.meanings import Level, key_of_token

MOST_WAITING = 1000
MOST_WITHIN = 40
CUT_FROM_TEXT = -1


class Fault(Exception):
    """Ends a run with an error, which a word tells; it never leaves the package."""

    def __init__(self, word):
        self.word = word


class OutOfSteps(Exception):
    """Ends a run where a step more than are let would be done; it never leaves the package."""


class Stopped(Exception):
    """Ends a run at a stop; it never leaves the package."""


class Run:
    """A run: tokens that wait (the next one last), levels, rows of things, open tests, and what is told of it.

    A token that waits, or was got, is a pair of the token and of the step that it bears.
    An open test is a list of two booleans: whether it is decided, and whether it has its else.
    """

    def __init__(self, text, answers, most):
        self.text = text
        self.ahead = 0
        self.at = 0
        self.standing = "new"
        self.waiting = []
        self.level_row = [Level("text", {}, {}, [])]
        self.rows = [[]]
        self.tests = []
        self.answers = answers
        self.asked = 0
        self.most = most
        self.steps = 0
        self.within = 0
        self.stood_open = False
        self.exhausted = False
        self.events = []
        self.brought = []
        self.pieces = []

    def place(self):
        """Return the index of the next sign."""
        return self.ahead + self.at

    def tell(self, event):
        """Tell an event."""
        self.events.append((self.steps, self.place(), event))

    def take(self):
        """Take off the next token, or return None if there is none."""
        if self.waiting:
            return self.waiting.pop()
        token, start, self.at, self.standing = next_piece(self.level_row[-1].kinds, self.text, self.at, self.standing)
        if token is None:
            self.exhausted = True
            return None
        self.pieces.append((token, start, self.at, self.standing))
        return (token, CUT_FROM_TEXT)

    def got(self):
        """Get a token, as it is."""
        found = self.take()
        if found is None:
            raise Fault("ends")
        return found

    def got_behind_spaces(self):
        """Get a token, as it is, spaces going."""
        found = self.got()
        while found[0][0] == 4:
            found = self.got()
        return found

    def put_back(self, found):
        """Put a token ahead as it was got."""
        if len(self.waiting) >= MOST_WAITING:
            raise Fault("full")
        self.waiting.append(found)

    def put_ahead(self, tokens, step):
        """Put a list or row of tokens ahead, which bear a step."""
        if len(self.waiting) + len(tokens) > MOST_WAITING:
            raise Fault("full")
        for token in reversed(tokens):
            self.waiting.append((token, step))

    def begin_step(self, verb, found):
        """Begin a step, and return how many were done ahead of it."""
        if self.steps >= self.most:
            raise OutOfSteps()
        step = self.steps
        self.steps += 1
        self.brought.append(found[1])
        self.tell((verb, found[0]))
        if self.within >= MOST_WITHIN:
            raise Fault("deep")
        self.within += 1
        return step

    def end_step(self):
        """End the step that was begun last."""
        self.within -= 1

    def value(self, key):
        """Return the value of a key in force."""
        return self.level_row[-1].value(key)

    def set_value(self, key, value, wide):
        """Set a key in the last level, or in all."""
        levels = self.level_row if wide else self.level_row[-1:]
        for level in levels:
            level.put_value(key, value)
        self.tell(("set", key, value, wide))

    def meaning(self, token):
        """Return the meaning of a token, or None."""
        key = key_of_token(token)
        if key is None:
            return ("token", token)
        return self.value(key)

    def word_meant(self, token):
        """Return the word that a token means, or an empty string for all other meanings."""
        meaning = self.meaning(token)
        if meaning is None or meaning[0] != "word":
            return ""
        return meaning[1]

    def bring(self, thing):
        """Bring a thing."""
        self.rows[-1].append(thing)
        self.tell(("come", thing))

    def answered(self):
        """Take off the first one of the answers; one that is not there counts as False."""
        asked = self.asked
        self.asked += 1
        return asked < len(self.answers) and self.answers[asked]


def levels_told(run):
    """Return the row of the levels that stand."""
    return tuple([level.told() for level in run.level_row])


def tests_told(run):
    """Return the row of whether the open tests have their elses."""
    return tuple([has_else for _, has_else in run.tests])


def rows_told(run):
    """Return the rows of things, that of the text first, then those of the boxes that stand."""
    return tuple([tuple(row) for row in run.rows])


def error_end(run, word):
    """Return the end of a run by an error."""
    return ("error", word, run.place(), rows_told(run))


def closing_end(run):
    """Return the end of a run at a stop, or where there is no token to be done next."""
    if len(run.level_row) > 1 or run.tests:
        return error_end(run, "open")
    return ("done", tuple(run.rows[0]))
