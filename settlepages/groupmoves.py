"""Where a deed of a row can stand, and which deeds can be left out, so that the form of the row stays the same."""

from settlepages.errors import InvalidNumber
from settlepages.groupforms import form_told
from settlepages.grouprows import need_deeds
from settlepages.kinds import is_integer_within


def without(deeds, indices):
    """Return a row of deeds without those with some indices."""
    return tuple([deed for at, deed in enumerate(deeds) if at not in indices])


def can_go(deeds, form, indices):
    """Return whether a row of deeds has a form still, when the deeds with some indices are left out."""
    return form_told(without(deeds, indices)) == form


def paired_groups(deeds):
    """Return the ascending list of the pairs of the indices of a begin and of its end."""
    pairs = []
    begun = []
    for at, deed in enumerate(deeds):
        if deed[0] == "begin":
            begun.append(at)
        elif deed[0] == "end" and begun:
            pairs.append((begun.pop(), at))
    return sorted(pairs)


def rows_to_leave_out(deeds):
    """Return the list of all rows of indices that may be idle: of each deed, and of each begin with its end."""
    return [(at,) for at in range(len(deeds))] + paired_groups(deeds)


def places_of(deeds, index):
    """Return the ascending list of all indices at which a deed can stand, so that the form stays the same."""
    need_deeds(deeds)
    if not is_integer_within(index, 0, len(deeds) - 1):
        raise InvalidNumber("index")
    form = form_told(deeds)
    rest = without(deeds, (index,))
    moved = deeds[index:index + 1]
    return [at for at in range(len(deeds)) if form_told(rest[:at] + moved + rest[at:]) == form]


def idle_deeds(deeds):
    """Return the ascending list of the indices of all deeds each of which alone can be left out."""
    need_deeds(deeds)
    form = form_told(deeds)
    return [at for at in range(len(deeds)) if can_go(deeds, form, (at,))]


def idle_groups(deeds):
    """Return the ascending list of the pairs of a begin and of its end which alone, both, can be left out."""
    need_deeds(deeds)
    form = form_told(deeds)
    return [pair for pair in paired_groups(deeds) if can_go(deeds, form, pair)]


def thinned_deeds(deeds):
    """Return any row that comes by leaving out deeds, has the same form, and neither idle deeds nor idle groups."""
    need_deeds(deeds)
    form = form_told(deeds)
    left = deeds
    idle = rows_to_leave_out(left)
    while idle:
        indices = idle.pop()
        if can_go(left, form, indices):
            left = without(left, indices)
            idle = rows_to_leave_out(left)
    return left
