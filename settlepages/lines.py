"""Lines of a paragraph: their sums, their badness and their tightness."""

LEAST_WORST = 10000
EVEN = 2
PLAIN = "plain"
MARKED = "marked"


class Measures:
    """The sums of the items of a paragraph, up to each of them, from which all of its lines are told."""

    def __init__(self, paragraph):
        self.paragraph = paragraph
        self.sums = [(0, 0, 0)]
        for item in paragraph:
            natural, stretch, shrink = self.sums[len(self.sums) - 1]
            if item[0] == "box":
                natural += item[1]
            elif item[0] == "gap":
                natural, stretch, shrink = natural + item[1], stretch + item[2], shrink + item[3]
            elif item[0] == "place":
                natural += item[5]
            self.sums.append((natural, stretch, shrink))

    def first_item(self, start):
        """Return the index of the first item that counts, of a line that begins at an item, or at -1."""
        at = start + 1
        if start < 0 or self.paragraph[start][0] != "place":
            return at
        while at < len(self.paragraph) and self.paragraph[at][0] == "gap":
            at += 1
        return at

    def line(self, start, stop):
        """Return the natural length, the stretch and the shrink of a line, from an item, or -1, to another one."""
        ahead = self.sums[self.first_item(start)]
        upto = self.sums[stop]
        natural = upto[0] - ahead[0]
        if start >= 0 and self.paragraph[start][0] == "place":
            natural += self.paragraph[start][4]
        if stop < len(self.paragraph) and self.paragraph[stop][0] == "place":
            natural += self.paragraph[stop][3]
        return (natural, upto[1] - ahead[1], upto[2] - ahead[2])

    def closes(self, stop):
        """Return whether a line that stops at an item, or behind the last one, stops there in any case."""
        return stop == len(self.paragraph) or self.paragraph[stop][0] == "end"

    def stops(self):
        """Return the list of the indices of all places and ends."""
        return [at for at, item in enumerate(self.paragraph) if item[0] in ("place", "end")]

    def takings(self, stop):
        """Return the list of the pairs (how, price) in which a stop can be taken."""
        if self.closes(stop):
            return [(PLAIN, 0)]
        _, plain, marked, _, _, _ = self.paragraph[stop]
        return [(how, price) for how, price in ((PLAIN, plain), (MARKED, marked)) if price is not None]


def badness_of(spare, stretch, shrink):
    """Return the badness of a line that is not too wide, with so much to spare."""
    if spare == 0:
        return 0
    room = stretch if spare > 0 else shrink
    if room == 0:
        return LEAST_WORST
    return min(LEAST_WORST, 100 * spare * spare // (room * room))


def tightness_of(spare, stretch, shrink):
    """Return the tightness of a line that is not too wide, with so much to spare."""
    if spare > stretch:
        return 0
    if 2 * spare > stretch:
        return 1
    if spare < 0 and -2 * spare > shrink:
        return 3
    return EVEN


def judged(line, width, closes):
    """Return the badness and the tightness of a line, or None if it is too wide."""
    natural, stretch, shrink = line
    spare = width - natural
    if spare + shrink < 0:
        return None
    if closes and spare >= 0:
        return (0, EVEN)
    return (badness_of(spare, stretch, shrink), tightness_of(spare, stretch, shrink))


def width_of(widths, number):
    """Return the width of the line with a number."""
    return widths[min(number, len(widths) - 1)]
