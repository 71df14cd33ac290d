"""Breakers: they lead ways through a paragraph, and keep one of those that are the same to them."""

from settlepages.lines import MARKED, PLAIN, Measures, judged, width_of

FULL_KEY = (None, True, True)
FAR_APART = 2
NO_TIGHTNESS = -1


class Kept:
    """A way that has come to an item (-1 for the beginning), with its cost, its lines, and how it came there."""

    def __init__(self, index, cost, way, line_count, tightness, how):
        self.index = index
        self.cost = cost
        self.way = way
        self.line_count = line_count
        self.tightness = tightness
        self.how = how


def joint_cost(costs, kept, tightness, how):
    """Return what near and twice make of what stands at either side of an item at which a way is kept."""
    _, _, near, twice, _ = costs
    cost = 0
    if kept.tightness != NO_TIGHTNESS and abs(kept.tightness - tightness) >= FAR_APART:
        cost += near
    if kept.how == MARKED and how == MARKED:
        cost += twice
    return cost


def wish_cost(costs, lines):
    """Return the cost of the wish for so many lines."""
    number, price = costs[4]
    return price * abs(lines - number)


class Breaker:
    """A breaker with a key; it drops what comes to a line that is too wide, if it is told to."""

    def __init__(self, paragraph, costs, key, drops):
        self.measures = Measures(paragraph)
        self.costs = costs
        self.key = key
        self.drops = drops
        self.sources = [Kept(-1, 0, (), 0, NO_TIGHTNESS, PLAIN)]
        self.all_kept = []

    def verdict(self, source, stop, known):
        """Return the badness and the tightness of the line from a way that is kept to a stop, or None."""
        name = (source.index, min(source.line_count, len(self.costs[0])))
        if name not in known:
            line = self.measures.line(source.index, stop)
            width = width_of(self.costs[0], source.line_count)
            known[name] = judged(line, width, self.measures.closes(stop))
        return known[name]

    def class_of(self, lines, tightness, how):
        """Return what tells ways apart that have come to one item."""
        cap, asks_tightness, asks_mark = self.key
        return (
            lines if cap is None else min(lines, cap),
            tightness if asks_tightness else NO_TIGHTNESS,
            how if asks_mark else PLAIN,
        )

    def offer(self, found, source, stop, verdict, taking):
        """Keep a way that has come to a stop, if it is the best one of its class so far."""
        badness, tightness = verdict
        how, price = taking
        cost = source.cost + self.costs[1] * badness + price + joint_cost(self.costs, source, tightness, how)
        name = self.class_of(source.line_count + 1, tightness, how)
        best = found[name] if name in found else None
        if best is not None and cost > best.cost:
            return
        way = source.way if self.measures.closes(stop) else source.way + ((stop, how),)
        if best is None or (cost, way) < (best.cost, best.way):
            found[name] = Kept(stop, cost, way, source.line_count + 1, tightness, how)

    def led_to(self, stop):
        """Lead all ways that are kept to a stop, and return the list of those that are kept there."""
        found = {}
        known = {}
        left = []
        takings = self.measures.takings(stop)
        for source in self.sources:
            verdict = self.verdict(source, stop, known)
            if verdict is not None:
                for taking in takings:
                    self.offer(found, source, stop, verdict, taking)
            if verdict is not None or not self.drops:
                left.append(source)
        self.sources = left
        return list(found.values())

    def keep_at(self, stop, kept):
        """Go on behind a stop with the ways that are kept there; none of those ahead is led over an end."""
        self.all_kept.extend(kept)
        self.sources = kept if self.measures.closes(stop) else self.sources + kept

    def told(self):
        """Return the pair (cost, way) of the best way behind the last item, or None."""
        for stop in self.measures.stops():
            self.keep_at(stop, self.led_to(stop))
        return self.best_end()

    def best_end(self):
        """Return the pair (cost, way) of the best way that is led behind the last item, or None."""
        best = None
        known = {}
        stop = len(self.measures.paragraph)
        for source in self.sources:
            verdict = self.verdict(source, stop, known)
            if verdict is not None:
                cost = source.cost + self.costs[1] * verdict[0] + joint_cost(self.costs, source, verdict[1], PLAIN)
                total = (cost + wish_cost(self.costs, source.line_count + 1), source.way)
                if best is None or total < best:
                    best = total
        return best


def best_way(paragraph, costs, key):
    """Return the pair (cost, way) that a breaker with a key tells, or None."""
    return Breaker(paragraph, costs, key, False).told()
