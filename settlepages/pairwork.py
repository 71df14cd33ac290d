"""What pairs come to: the work behind shapes.

What a pair comes to is None if it is endless, otherwise a triple (count, told, standing): how many things
are told, their row (None if they are more than a shape may have), and what is at the hand at last.
"""

LONGEST_SHAPE = 1000
LONGEST_TOLD = 40
NOTHING_TOLD = (0, (), "")


def told_of(item):
    """Return the row of what is told when an item is left behind: a letter, a kern, or an edge."""
    if item == "":
        return ()
    if isinstance(item, str):
        return (("sign", item),)
    return (item,)


def joined(one, other):
    """Return what comes of two works of pairs, one behind the other."""
    count = one[0] + other[0]
    told = one[1] + other[1] if count <= LONGEST_SHAPE else None
    return (count, told, other[2])


class PairWork:
    """The work of a program: each pair is worked out at most once."""

    def __init__(self, pairs):
        self.letters = pairs[0]
        self.deeds = {(left, right): deed for left, right, deed in pairs[1]}
        self.done = {}
        self.started = {}

    def outcome(self, left, right):
        """Return what a pair comes to; one that is started already needs itself, and is endless."""
        pair = (left, right)
        if pair in self.done:
            return self.done[pair]
        if pair in self.started:
            return None
        self.started[pair] = True
        found = self.worked(left, right)
        self.done[pair] = found
        return found

    def worked(self, left, right):
        """Work a pair out by the row of the program for it."""
        if (left, right) not in self.deeds:
            return self.left_behind([left], right)
        deed = self.deeds[(left, right)]
        if deed[0] == "kern":
            return self.left_behind([left, deed], right)
        _, letter, keeps_left, keeps_right, on = deed
        items = ([left] if keeps_left else []) + [letter] + ([right] if keeps_right else [])
        work = self.left_behind(items[:on], items[on])
        for item in items[on + 1:]:
            behind = self.outcome(work[2], item)
            if behind is None:
                return None
            work = joined(work, behind)
        return work

    def left_behind(self, items, standing):
        """Return what comes of leaving items behind."""
        told = tuple([thing for item in items for thing in told_of(item)])
        return (len(told), told, standing)

    def right_sides(self, standing):
        """Return the list of what a standing can meet, in order."""
        return list(self.letters) if standing == "" else ["", *self.letters]


def shape_work(pairs, word):
    """Return what a word comes to, or None if it has no shape."""
    work = PairWork(pairs)
    found = NOTHING_TOLD
    for letter in [*word, ""]:
        behind = work.outcome(found[2], letter)
        if behind is None:
            return None
        found = joined(found, behind)
    return found


def words_to_standings(work):
    """Return a dict of the least words to all standings to which words lead, in the order of these words."""
    words = {"": ""}
    queue = [""]
    at = 0
    while at < len(queue):
        standing = queue[at]
        at += 1
        for letter in work.letters:
            found = work.outcome(standing, letter)
            if found is not None and found[2] not in words:
                words[found[2]] = words[standing] + letter
                queue.append(found[2])
    return words


def least_endless_word(pairs):
    """Return the least word without a shape, or None."""
    work = PairWork(pairs)
    words = words_to_standings(work)
    endless = [
        words[standing] + right
        for standing in words for right in work.right_sides(standing) if work.outcome(standing, right) is None
    ]
    if not endless:
        return None
    return min([(len(word), word) for word in endless])[1]


def pairs_that_words_meet(pairs):
    """Return the dict of what all pairs that words meet come to."""
    work = PairWork(pairs)
    met = {}
    for standing in words_to_standings(work):
        for right in work.right_sides(standing):
            met[(standing, right)] = work.outcome(standing, right)
    return met
