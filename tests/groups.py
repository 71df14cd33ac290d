"""A slow way to do deeds within groups, and rows of deeds and states for the tests, the same ones each time."""

import itertools
import random

KEYS = (("num", "0"), ("num", "1"), ("len", "0"))
TOKENS = ((5, "a"), (5, "b"), ("name", "x"))


def numbers_of(group):
    """The numbers of a group of a state, by key."""
    return dict(group[0])


def group_of(numbers, kept):
    """A group of a state."""
    return (tuple(sorted((key, number) for key, number in numbers.items() if number)), tuple(kept))


def done_slowly(state, deeds):
    """What deeds tell in a state, and the groups behind them; None where just one group stands too early."""
    groups = [(numbers_of(group), list(group[1])) for group in state]
    told = []
    for word, *rest in deeds:
        if word == "begin":
            groups.append((dict(groups[-1][0]), []))
        elif word in ("end", "after") and len(groups) == 1:
            return None
        elif word == "end":
            told += [("token", token) for token in groups.pop()[1]]
        elif word == "after":
            groups[-1][1].append(rest[0])
        elif word == "tell":
            told.append(("number", groups[-1][0].get(rest[0], 0)))
        else:
            key, what, wide = rest
            number = {
                "set": lambda: what, "more": lambda: groups[-1][0].get(key, 0) + what, "copy": lambda: groups[-1][0].get(what, 0),
            }[word]()
            for numbers, _ in groups if wide else groups[-1:]:
                numbers[key] = number
    return tuple(told), tuple(group_of(*group) for group in groups)


def told_by_form(state, form):
    """What a form says that deeds tell in a state, and the groups behind them."""
    ended, told, wide, base, kept, opened = form

    def number(term):
        if term[0] == "is":
            return term[1]
        _, up, key, more = term
        return numbers_of(state[-1 - up]).get(key, 0) + more

    said = []
    for sort, what in told:
        if sort == "number":
            said.append(("number", number(what)))
        elif sort == "token":
            said.append(("token", what))
        else:
            said += [("token", token) for token in state[-1 - what][1]]
    groups = []
    for group in state[:-1 - ended]:
        groups.append(group_of({**numbers_of(group), **{key: number(term) for key, term in wide}}, group[1]))
    under = state[-1 - ended]
    for terms, tokens, first in ((base, kept, under[1]), *((terms, tokens, ()) for terms, tokens in opened)):
        groups.append(group_of({**numbers_of(under), **{key: number(term) for key, term in terms}}, (*first, *tokens)))
    return tuple(said), tuple(groups)


def random_deed(source, keys=KEYS, tokens=TOKENS, great=3):
    word = source.choice(("begin", "begin", "end", "end", "set", "set", "more", "copy", "copy", "tell", "tell", "after"))
    if word in ("begin", "end"):
        return (word,)
    if word == "tell":
        return (word, source.choice(keys))
    if word == "after":
        return (word, source.choice(tokens))
    wide = source.random() < 0.3
    if word == "copy":
        return (word, *source.sample(keys, 2), wide)
    return (word, source.choice(keys), source.randint(-great, great), wide)


def random_deeds(source, many, **rest):
    return tuple(random_deed(source, **rest) for _ in range(source.randint(0, many)))


def random_group(source, keys, tokens, great):
    kept = [source.choice(tokens) for _ in range(source.choice((0, 0, 1, 2)))]
    return group_of({key: source.randint(-great, great) for key in keys if source.random() < 0.7}, kept)


def random_state(source, many, keys=KEYS, tokens=TOKENS, great=10 ** 6):
    """A state of so many groups; with great numbers all terms of short rows tell unlike numbers."""
    groups = [random_group(source, keys, tokens, great) for _ in range(many)]
    groups[0] = (groups[0][0], ())
    return tuple(groups)


def rich_states(many, count, seed=7):
    """States of so many groups, in which unlike keys have unlike numbers, and each group but the first keeps tokens."""
    source = random.Random(seed)
    states = []
    for _ in range(count):
        state = []
        for at in range(many):
            numbers = {key: source.randint(10 ** 5, 10 ** 6) for key in KEYS}
            kept = [("name", source.choice("pqrst")) for _ in range(source.randint(1, 2))] if at else []
            state.append(group_of(numbers, kept))
        states.append(tuple(state))
    return states


def many_ended_slowly(deeds):
    """How many groups of a state a row of deeds ends."""
    return max(0, *(
        sum((deed[0] == "end") - (deed[0] == "begin") for deed in deeds[:at]) for at in range(len(deeds) + 1)
    ))


def all_rows(deeds, longest):
    return [row for many in range(longest + 1) for row in itertools.product(deeds, repeat=many)]
