"""What words can come to a shape, and how far a change of a letter is felt."""

from settlepages.errors import InvalidLetter, InvalidThings
from settlepages.kinds import is_integer_within
from settlepages.pairshapes import ALL_LETTERS, GREATEST_KERN, is_letter_of, need_short
from settlepages.pairwork import PairWork, words_to_standings

MOST_THINGS = 40


def is_thing_of_shape(value):
    """Return whether any value is a thing of a shape, of any letter."""
    if not isinstance(value, tuple) or len(value) != 2:
        return False
    if value[0] == "sign":
        return is_letter_of(value[1], ALL_LETTERS)
    return value[0] == "kern" and is_integer_within(value[1], -GREATEST_KERN, GREATEST_KERN)


def need_things(value):
    """Raise InvalidThings for what is no row of at most 40 things."""
    if not isinstance(value, tuple) or len(value) > MOST_THINGS:
        raise InvalidThings("things")
    if not all([is_thing_of_shape(thing) for thing in value]):
        raise InvalidThings("things")


def word_for(calm, things):
    """Return the least word with a shape, or None.

    Words are looked for in their order; of those that lead to one standing, with as much told, the first is enough.
    """
    met = need_short(calm)
    need_things(things)
    queue = [("", 0, "")]
    seen = {}
    at = 0
    while at < len(queue):
        standing, many, word = queue[at]
        at += 1
        if word != "" and met[(standing, "")][1] == things[many:]:
            return word
        for letter in calm[0]:
            count, told, behind = met[(standing, letter)]
            if things[many:many + count] == told and (behind, many + count) not in seen:
                seen[(behind, many + count)] = True
                queue.append((behind, many + count, word + letter))
    return None


class Changes:
    """The pairs of unlike standings to which the two words of a change lead, each with the first two such words."""

    def __init__(self, calm, met):
        self.letters = calm[0]
        self.met = met
        self.words = {}
        self.firsts = []
        least_words = words_to_standings(PairWork(calm))
        for standing in least_words:
            self.begin(standing, least_words[standing])
        self.go_on()

    def begin(self, standing, word):
        """Take all changes of the letter behind a word that leads to a standing."""
        for one in self.letters:
            for other in self.letters:
                pair = (self.met[(standing, one)][2], self.met[(standing, other)][2])
                if one < other and pair[0] != pair[1] and pair not in self.words:
                    self.words[pair] = (word + one, word + other)
                    self.firsts.append(pair)

    def behind(self, pair, letter):
        """Return the pair of the standings behind a letter more."""
        return (self.met[(pair[0], letter)][2], self.met[(pair[1], letter)][2])

    def unlike_behind(self, pair):
        """Return the list of the pairs (letter, pair of unlike standings behind it)."""
        found = [(letter, self.behind(pair, letter)) for letter in self.letters]
        return [(letter, behind) for letter, behind in found if behind[0] != behind[1]]

    def go_on(self):
        """Find the pairs behind further letters, too."""
        queue = list(self.firsts)
        at = 0
        while at < len(queue):
            one, other = self.words[queue[at]]
            for letter, behind in self.unlike_behind(queue[at]):
                if behind not in self.words:
                    self.words[behind] = (one + letter, other + letter)
                    queue.append(behind)
            at += 1

    def heights(self):
        """Return a dict of how many letters pairs stay unlike at most, this one counted; others have no such number."""
        heights = {}
        many = -1
        while many < len(heights):
            many = len(heights)
            for pair in self.words:
                nexts = [behind for _, behind in self.unlike_behind(pair)]
                if pair not in heights and all([behind in heights for behind in nexts]):
                    heights[pair] = 1 + max([heights[behind] for behind in nexts], default=0)
        return heights

    def word_back(self, pair):
        """Return the least word behind which a pair comes again, or None."""
        queue = [(pair, "")]
        seen = {}
        at = 0
        while at < len(queue):
            found, word = queue[at]
            at += 1
            for letter, behind in self.unlike_behind(found):
                if behind == pair:
                    return word + letter
                if behind not in seen:
                    seen[behind] = True
                    queue.append((behind, word + letter))
        return None


def farthest(changes, heights):
    """Return how far changes are felt at most, or None if there is no greatest number."""
    if len(heights) < len(changes.words):
        return None
    return max([heights[pair] for pair in changes.firsts], default=0)


def felt_far(calm):
    """Return how far changes are felt at most, or None if there is no greatest number."""
    changes = Changes(calm, need_short(calm))
    return farthest(changes, changes.heights())


def words_felt(changes, heights, far):
    """Return a change that is felt so far, which is one or more letters."""
    pair = [first for first in changes.firsts if heights[first] == far][0]
    one, other = changes.words[pair]
    while heights[pair] > 1:
        nexts = changes.unlike_behind(pair)
        letter, pair = [found for found in nexts if heights[found[1]] == heights[pair] - 1][0]
        one += letter
        other += letter
    return (one, other)


def endless_change(changes, heights):
    """Return the two words of a change, and a word behind which both of their standings come again."""
    backs = [(pair, changes.word_back(pair)) for pair in changes.words if pair not in heights]
    pair, back = [found for found in backs if found[1] is not None][0]
    one, other = changes.words[pair]
    return (one, other, back)


def felt_words(calm):
    """Return any change that is felt as far as can be, or, if there is no such number, what shows that."""
    met = need_short(calm)
    if len(calm[0]) < 2:
        raise InvalidLetter("letters")
    changes = Changes(calm, met)
    heights = changes.heights()
    far = farthest(changes, heights)
    if far is None:
        return endless_change(changes, heights)
    return words_felt(changes, heights, far) if far > 0 else (calm[0][0], calm[0][1])
