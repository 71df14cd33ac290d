"""The form of a row of deeds, and states that part two rows."""

from settlepages.grouprows import need_deeds, told_and_behind
from settlepages.groupwork import Group, Groups, do_deeds

TOKENS_TO_KEEP = ((5, "a"), (5, "b"))


def many_ended(deeds):
    """Return how many groups of a state a row of deeds ends."""
    ended = 0
    begun = 0
    for deed in deeds:
        if deed[0] == "begin":
            begun += 1
        elif deed[0] == "end" and begun > 0:
            begun -= 1
        elif deed[0] == "end":
            ended += 1
    return ended


def terms_told(group):
    """Return the ascending row of the pairs (key, term) of a group."""
    return tuple([(key, group.terms[key]) for key in sorted(group.terms)])


def terms_changed(group, ended):
    """Return those pairs (key, term) of a group that are not what the key was in the base."""
    return tuple([(key, term) for key, term in terms_told(group) if term != ("old", ended, key, 0)])


def form_told(deeds):
    """Return the form of a row of deeds."""
    ended = many_ended(deeds)
    groups = Groups([Group(up, {}, [("kept", up)]) for up in range(ended + 1, -1, -1)])
    do_deeds(groups, deeds)
    # No deed has the outer group as its last one: its terms are just what was set wide.
    outer, base = groups.stand[:2]
    opened = tuple([(terms_changed(group, ended), group.tokens_kept()) for group in groups.stand[2:]])
    return (ended, tuple(groups.said), terms_told(outer), terms_changed(base, ended), base.tokens_kept(), opened)


def keys_in(deeds):
    """Return the ascending list of the keys of a row of deeds."""
    keys = {}
    for deed in deeds:
        for item in deed[1:3]:
            if isinstance(item, tuple) and deed[0] != "after":
                keys[item] = True
    return sorted(keys)


def plain_state(many):
    """Return the state of so many groups in which all keys are 0, and no token is kept."""
    return (((), ()),) * many


def states_to_try(deeds, others, many):
    """Return a list of states of so many groups, one of which parts two rows of deeds with unlike forms.

    Two unlike terms part in the first of them, or where just one key that stands in them is 1. Two rows that end
    unlike numbers of groups, or tell what a group kept in unlike places, part where this keeps a token.
    """
    plain = plain_state(many)
    numbers = [(((key, 1),), ()) for key in keys_in(deeds + others)]
    tokens = [((), (token,)) for token in TOKENS_TO_KEEP]
    states = [plain]
    for group in numbers:
        states.extend([plain[:at] + (group,) + plain[at + 1:] for at in range(many)])
    for group in tokens:
        states.extend([plain[:at] + (group,) + plain[at + 1:] for at in range(1, many)])
    return states


def form_of(deeds):
    """Return the form of a row of deeds."""
    need_deeds(deeds)
    return form_told(deeds)


def are_alike(deeds, others):
    """Return whether two rows of deeds have the same form."""
    need_deeds(deeds)
    need_deeds(others)
    return form_told(deeds) == form_told(others)


def parting_state(deeds, others):
    """Return any state in which two rows of deeds tell, or come to, unlike things, or None."""
    need_deeds(deeds)
    need_deeds(others)
    if form_told(deeds) == form_told(others):
        return None
    many = max(many_ended(deeds), many_ended(others)) + 2
    for state in states_to_try(deeds, others, many):
        if told_and_behind(state, deeds) != told_and_behind(state, others):
            return state
    return None
