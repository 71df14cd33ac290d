"""Programs that shape all words alike."""

from settlepages.errors import UnlikeLetters
from settlepages.kinds import is_integer
from settlepages.pairshapes import is_too_long, need_short
from settlepages.pairwork import pairs_that_words_meet

NO_LAG = ((), ())


def need_both(one, other):
    """Check two short programs with the same letters, and return the dicts of the pairs that words meet."""
    met_one = need_short(one)
    met_other = need_short(other)
    if one[0] != other[0]:
        raise UnlikeLetters("letters")
    return met_one, met_other


def without_common(one, other):
    """Return two rows without all that both begin with."""
    many = 0
    while many < min(len(one), len(other)) and one[many] == other[many]:
        many += 1
    return (one[many:], other[many:])


class Both:
    """Two programs with the same letters, by the pairs that words meet."""

    def __init__(self, letters, met_one, met_other):
        self.letters = letters
        self.met_one = met_one
        self.met_other = met_other

    def behind(self, triple, letter):
        """Return the triple behind a letter more."""
        one, other, lag = triple
        _, told_one, behind_one = self.met_one[(one, letter)]
        _, told_other, behind_other = self.met_other[(other, letter)]
        return (behind_one, behind_other, without_common(lag[0] + told_one, lag[1] + told_other))

    def do_ends_agree(self, triple):
        """Return whether both tell the same where a word ends."""
        one, other, lag = triple
        return lag[0] + self.met_one[(one, "")][1] == lag[1] + self.met_other[(other, "")][1]


def read_alike(both):
    """Return the list of the triples of an alike paper, and the least word with unlike shapes, or None.

    Where the ends agree, the lag follows from the two standings: so there are only so many triples.
    """
    triples = [("", "", NO_LAG)]
    words = [""]
    seen = {("", ""): True}
    at = 0
    while at < len(triples):
        for letter in both.letters:
            behind = both.behind(triples[at], letter)
            if not both.do_ends_agree(behind):
                return triples, words[at] + letter
            if behind[:2] not in seen:
                seen[behind[:2]] = True
                triples.append(behind)
                words.append(words[at] + letter)
        at += 1
    return triples, None


def unlike_word(one, other):
    """Return the least word whose shapes are not the same, or None."""
    met_one, met_other = need_both(one, other)
    return read_alike(Both(one[0], met_one, met_other))[1]


def alike_paper(one, other):
    """Return any alike paper, or None."""
    met_one, met_other = need_both(one, other)
    triples, word = read_alike(Both(one[0], met_one, met_other))
    return tuple(triples) if word is None else None


def is_thing(value):
    """Return whether any value is a thing that is told of a letter, or of a kern."""
    if not isinstance(value, tuple) or len(value) != 2 or not isinstance(value[0], str):
        return False
    return isinstance(value[1], str) if value[0] == "sign" else value[0] == "kern" and is_integer(value[1])


def is_lag(value):
    """Return whether any value is a lag."""
    if not isinstance(value, tuple) or len(value) != 2:
        return False
    if not all([isinstance(part, tuple) and all([is_thing(thing) for thing in part]) for part in value]):
        return False
    return value[0] == () or value[1] == ()


def is_triple_of(both, value):
    """Return whether any value is a triple of two standings to which words lead, and of a lag."""
    if not isinstance(value, tuple) or len(value) != 3 or not is_lag(value[2]):
        return False
    one, other, lag = value
    if not isinstance(one, str) or not isinstance(other, str):
        return False
    if one == "" or other == "":
        return one == other and lag == NO_LAG
    return (one, "") in both.met_one and (other, "") in both.met_other


def is_closed(both, triples):
    """Return whether the lags of triples, by their standings, are closed under all letters, and all ends agree."""
    lags = {triple[:2]: triple[2] for triple in triples}
    for triple in triples:
        if triple[0] != "" and not both.do_ends_agree(triple):
            return False
        for letter in both.letters:
            behind = both.behind(triple, letter)
            if behind[:2] not in lags or lags[behind[:2]] != behind[2]:
                return False
    return True


def is_alike_paper(one, other, value):
    """Return whether any value is an alike paper."""
    met_one, met_other = need_both(one, other)
    both = Both(one[0], met_one, met_other)
    if not isinstance(value, tuple) or not all([is_triple_of(both, triple) for triple in value]):
        return False
    unlike = {triple[:2]: True for triple in value}
    return ("", "") in unlike and len(unlike) == len(value) and is_closed(both, value)


def is_row_idle(calm, met, index):
    """Return whether a row of a short program, left out alone, leaves a short program that is alike."""
    letters, rows = calm
    left = pairs_that_words_meet((letters, rows[:index] + rows[index + 1:]))
    if any([outcome is None for outcome in left.values()]) or is_too_long(left):
        return False
    return read_alike(Both(letters, met, left))[1] is None


def idle_rows(calm):
    """Return the ascending list of the indices of all rows that can be left out alone."""
    met = need_short(calm)
    return [index for index in range(len(calm[1])) if is_row_idle(calm, met, index)]
