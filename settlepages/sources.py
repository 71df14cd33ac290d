"""Where the steps and the things of a walk come from."""

from settlepages.errors import InvalidStep
from settlepages.kinds import is_integer_within
from settlepages.runstate import CUT_FROM_TEXT
from settlepages.walks import need_walk, run_of_walk


def need_step(walk, value):
    """Raise InvalidStep for what is no index of a step of a walk."""
    if not is_integer_within(value, 0, walk[2] - 1):
        raise InvalidStep("step")


def way_told(brought, index):
    """Return the way of a step, by the list of the steps that the tokens of all steps bear."""
    way = [index]
    while brought[way[-1]] != CUT_FROM_TEXT:
        way.append(brought[way[-1]])
    return tuple(way)


def sources_told(run):
    """Return the list of the sources of all steps of a run.

    A step whose token comes of the text tells its own source, and all others that of a step ahead of them.
    """
    places = [place for _, place, event in run.events if event[0] in ("work", "do")]
    found = []
    for step, bears in enumerate(run.brought):
        found.append(places[step] if bears == CUT_FROM_TEXT else found[bears])
    return found


def checked_run(walk, index):
    """Check a walk and an index of a step of it, and return the run of the walk."""
    need_walk(walk)
    need_step(walk, index)
    return run_of_walk(*walk)


def way_of(walk, index):
    """Return the way of a step."""
    return way_told(checked_run(walk, index).brought, index)


def source_of(walk, index):
    """Return the source of a step."""
    return sources_told(checked_run(walk, index))[index]


def come_of(walk, index):
    """Return the ascending list of all steps in whose ways a step stands."""
    brought = checked_run(walk, index).brought
    found = {index: True}
    for step in range(index + 1, len(brought)):
        if brought[step] in found:
            found[step] = True
    return list(found)


def things_told(walk):
    """Return the list of the triples (index of the step, source, thing) of all things that came."""
    need_walk(walk)
    run = run_of_walk(*walk)
    sources = sources_told(run)
    found = []
    doing = 0
    for steps, _, event in run.events:
        if event[0] == "do":
            doing = steps - 1
        elif event[0] == "come":
            found.append((doing, sources[doing], event[1]))
    return found
