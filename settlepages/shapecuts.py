"""Where words may be cut, so that both parts are shaped as by themselves."""

from settlepages.alikeshapes import Both
from settlepages.errors import InvalidLetter
from settlepages.pairshapes import is_letter_of, need_short
from settlepages.pairwork import PairWork, words_to_standings


def need_letter(calm, value):
    """Raise InvalidLetter for what is no letter of a program."""
    if not is_letter_of(value, calm[0]):
        raise InvalidLetter("letter")


class Cutter:
    """A short program: the least words to its standings, and what parts a word that goes on from one that begins."""

    def __init__(self, calm, met):
        self.met = met
        self.both = Both(calm[0], met, met)
        self.words = words_to_standings(PairWork(calm))
        self.known = {}

    def words_ending(self, letter):
        """Return a dict of the least words that end with a letter, by the standings to which they lead."""
        found = {}
        for standing in self.words:
            behind = self.met[(standing, letter)][2]
            if behind not in found:
                found[behind] = self.words[standing] + letter
        return found

    def parting_word(self, standing, letter):
        """Return the least word that begins with a letter, and is shaped unlike behind a standing, or None."""
        if (standing, letter) not in self.known:
            self.known[(standing, letter)] = self.sought_word(standing, letter)
        return self.known[(standing, letter)]

    def sought_word(self, standing, letter):
        """Look for that word; by itself, it stands behind the end of what led to the standing."""
        start = (standing, "", ((), self.met[(standing, "")][1]))
        queue = [(start, "")]
        seen = {}
        at = 0
        while at < len(queue):
            triple, word = queue[at]
            at += 1
            for more in (self.both.letters if word else letter):
                behind = self.both.behind(triple, more)
                if not self.both.do_ends_agree(behind):
                    return word + more
                # Where the ends agree, the lag follows from the two standings.
                if behind[:2] not in seen:
                    seen[behind[:2]] = True
                    queue.append((behind, word + more))
        return None

    def uncut(self, first, second):
        """Return two words that show that the program cannot be cut between two letters, or None."""
        best = None
        ending = self.words_ending(first)
        for standing in ending:
            word = self.parting_word(standing, second)
            if word is not None:
                length = len(ending[standing] + word)
                if best is None or length < len(best[0] + best[1]):
                    best = (ending[standing], word)
        return best


def cut_pairs(calm):
    """Return the ascending list of all pairs of letters between which a program can be cut."""
    cutter = Cutter(calm, need_short(calm))
    pairs = [(first, second) for first in calm[0] for second in calm[0]]
    return [pair for pair in pairs if cutter.uncut(pair[0], pair[1]) is None]


def uncut_words(calm, first, second):
    """Return any two words that show that a program cannot be cut between two letters, or None."""
    met = need_short(calm)
    need_letter(calm, first)
    need_letter(calm, second)
    return Cutter(calm, met).uncut(first, second)
