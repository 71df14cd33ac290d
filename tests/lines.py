"""A slow way to tell ways of paragraphs, their costs, and what breakers keep: item by item, and way by way."""

import itertools

FULL = (None, True, True)


def taken(paragraph, way):
    """All that is taken by a way, in order: places, ends, and what stands behind the last item."""
    hows = dict(way)
    return [at for at, item in enumerate(paragraph) if at in hows or item == ("end",)] + [len(paragraph)]


def line_sums(paragraph, start, stop):
    """The natural length, the stretch and the shrink of a line."""
    between = list(paragraph[start + 1:stop])
    sums = [0, 0, 0]
    if start >= 0 and paragraph[start][0] == "place":
        sums[0] += paragraph[start][4]
        while between and between[0][0] == "gap":
            between.pop(0)
    for item in between:
        assert item[0] != "end"
        lengths = {"box": item[1:2], "gap": item[1:], "place": item[5:]}[item[0]]
        for at, length in enumerate(lengths):
            sums[at] += length
    if stop < len(paragraph) and paragraph[stop][0] == "place":
        sums[0] += paragraph[stop][3]
    return sums


def line_told(paragraph, costs, start, stop, number):
    """The badness and the tightness of a line, or None if it is too wide."""
    natural, stretch, shrink = line_sums(paragraph, start, stop)
    width = (list(costs[0]) + [costs[0][-1]] * 100)[number]
    d = width - natural
    if d + shrink < 0:
        return None
    if (stop == len(paragraph) or paragraph[stop] == ("end",)) and d >= 0:
        return 0, 2
    if d == 0:
        badness = 0
    elif d > 0:
        badness = 10000 if stretch == 0 else min(10000, 100 * d * d // (stretch * stretch))
    else:
        badness = min(10000, 100 * d * d // (shrink * shrink))
    if d > stretch:
        return badness, 0
    if 2 * d > stretch:
        return badness, 1
    return badness, 3 if d < 0 and -2 * d > shrink else 2


def cost_upto(paragraph, costs, way, stops):
    """The cost of a way up to some of what it takes, and the tightness of its last line; None if it is not let."""
    widths, weight, near, twice, wish = costs
    hows = dict(way)
    cost, before, last = 0, -1, None
    for number, stop in enumerate(stops):
        told = line_told(paragraph, costs, before, stop, number)
        if told is None:
            return None
        cost += weight * told[0]
        if stop in hows:
            cost += paragraph[stop][1 if hows[stop] == "plain" else 2]
        if last is not None and abs(last - told[1]) >= 2:
            cost += near
        if hows.get(stop) == "marked" and hows.get(before) == "marked":
            cost += twice
        before, last = stop, told[1]
    return cost, last


def cost_slowly(paragraph, costs, way):
    stops = taken(paragraph, way)
    found = cost_upto(paragraph, costs, way, stops)
    return None if found is None else found[0] + costs[4][1] * abs(len(stops) - costs[4][0])


def all_ways(paragraph):
    """All ways of a paragraph."""
    options = []
    for at, item in enumerate(paragraph):
        if item[0] == "place":
            hows = [how for how, price in (("plain", item[1]), ("marked", item[2])) if price is not None]
            options.append([()] + [((at, how),) for how in hows])
    return [sum(some, ()) for some in itertools.product(*options)]


def least_slowly(paragraph, costs):
    """The least cost of a paragraph, by all its ways, or None."""
    found = [cost_slowly(paragraph, costs, way) for way in all_ways(paragraph)]
    return min([cost for cost in found if cost is not None], default=None)


def breaker_slowly(paragraph, costs, key, drops=False):
    """What a breaker tells, each way being worked out from the beginning."""
    kept = {-1: [()]}
    dropped = set()
    stops = [at for at, item in enumerate(paragraph) if item[0] in ("place", "end")] + [len(paragraph)]
    for stop in stops:
        ends = [at for at in kept if at >= 0 and paragraph[at] == ("end",)]
        first = max(ends, default=-1)
        item = paragraph[stop] if stop < len(paragraph) else ("end",)
        hows = ["plain"] if item == ("end",) else [how for how, price in (("plain", item[1]), ("marked", item[2])) if price is not None]
        come = {}
        for source in sorted(kept):
            for way in kept[source] if source >= first else []:
                upto = [at for at in taken(paragraph, way) if at <= source]
                if (source, way) in dropped:
                    continue
                if line_told(paragraph, costs, source, stop, len(upto)) is None:
                    if drops and stop < len(paragraph):
                        dropped.add((source, way))
                    continue
                for how in hows:
                    longer = way if item == ("end",) else way + ((stop, how),)
                    cost, last = cost_upto(paragraph, costs, longer, upto + [stop])
                    lines = len(upto) + 1
                    if stop == len(paragraph):
                        come.setdefault(None, []).append((cost + costs[4][1] * abs(lines - costs[4][0]), longer))
                        continue
                    cap, asks_tightness, asks_mark = key
                    name = (lines if cap is None else min(lines, cap), last if asks_tightness else None, how if asks_mark else None)
                    come.setdefault(name, []).append((cost, longer))
        kept[stop] = [min(ways)[1] for ways in come.values()]
        if item == ("end",) and not kept[stop]:
            return None
    return kept[len(paragraph)][0] if kept[len(paragraph)] else None


def random_item(source, widest, places):
    kind = source.choice(("box", "box", "gap", "gap", "place", "place", "end"))
    if kind == "place" and places == 0:
        kind = "box"
    if kind == "box":
        return ("box", source.randint(0, widest))
    if kind == "gap":
        return ("gap", source.randint(-4, 9), source.choice((0, 3, 9)), source.choice((0, 2, 5)))
    if kind == "end":
        return ("end",)
    prices = source.choice(((source.randint(-9, 9), None), (None, source.randint(-9, 9)), (source.randint(-3, 3), source.randint(-3, 3))))
    return ("place", *prices, source.choice((0, 0, 3)), source.choice((0, 0, 4)), source.choice((0, 5)))


def random_paragraph(source, longest=11, most_places=5, widest=14, ends=True):
    items = []
    while len(items) < longest:
        places = most_places - sum(item[0] == "place" for item in items)
        item = random_item(source, widest, places)
        if item != ("end",) or (ends and source.random() < 0.4):
            items.append(item)
    return tuple(items[:source.randint(0, longest)])


def random_costs(source):
    widths = tuple(source.choice((10, 12, 15, 20, 25)) for _ in range(source.randint(1, 4)))
    if source.random() < 0.3:
        widths = widths[:1] * source.randint(1, 8)
    wish = (source.randint(0, 5), source.choice((0, 0, 1, 4)))
    return (widths, source.choice((0, 1, 1, 3)), source.choice((0, 0, 2, 50)), source.choice((0, 0, 2, 5)), wish)


def random_key(source):
    return (source.choice((None, None, 0, 1, 2, 3, 8)), source.random() < 0.5, source.random() < 0.5)


def enough_slowly(costs, key):
    """What [30] tells of an enough key, width by width."""
    widths, _, near, twice, wish = costs
    cap, tightness, mark = key
    if (near and not tightness) or (twice and not mark):
        return False
    if cap is None:
        return True
    later = {(list(widths) + [widths[-1]] * 20)[number] for number in range(cap, 20) if number > 0}
    return wish[1] == 0 and len(later) == 1
