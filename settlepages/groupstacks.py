"""Stacks of what is given back, and the ways of keeping it."""

from settlepages.errors import InvalidStack, InvalidWay, NoGroup
from settlepages.grouprows import MOST_KEPT, are_numbers, is_number_key, is_state, need_deeds, need_state
from settlepages.keyvalues import is_pair, is_row_of_tokens
from settlepages.kinds import is_integer

MOST_ENTRIES = 300


def is_entry(value):
    """Return whether any value is an entry of a stack."""
    if not isinstance(value, tuple) or not 2 <= len(value) <= 3 or not isinstance(value[0], str):
        return False
    if value[0] == "group":
        return len(value) == 2 and is_row_of_tokens(value[1], MOST_KEPT)
    return value[0] == "back" and len(value) == 3 and is_number_key(value[1]) and is_integer(value[2])


def are_entries(value):
    """Return whether any value is a row of at most 300 entries, the first one a group."""
    if not isinstance(value, tuple) or len(value) > MOST_ENTRIES or not all([is_entry(entry) for entry in value]):
        return False
    return value == () or value[0][0] == "group"


def numbers_told(numbers):
    """Return the ascending row of the pairs (key, number) of all keys of a dict that are not 0."""
    return tuple([(key, numbers[key]) for key in sorted(numbers) if numbers[key] != 0])


def groups_told(stack):
    """Return the row of the groups that a stack tells, which may pass what states let."""
    numbers = {key: number for key, number in stack[0]}
    groups = []
    within = stack[0]
    for entry in reversed(stack[1]):
        if entry[0] == "back":
            numbers[entry[1]] = entry[2]
        else:
            groups.append((within, entry[1]))
            within = numbers_told(numbers)
    groups.append((within, ()))
    return tuple(reversed(groups))


def need_stack(value):
    """Raise InvalidStack for what is no stack of at most 300 entries that tells a state."""
    if not is_pair(value) or not are_numbers(value[0]) or not are_entries(value[1]):
        raise InvalidStack("stack")
    if not is_state(groups_told(value)):
        raise InvalidStack("state")


def backs_between(outer, inner):
    """Return the entries that give back what a group further out has for other numbers than the next one."""
    given = {key: number for key, number in outer}
    changed = {key: number for key, number in inner}
    both = sorted([key for key in given] + [key for key in changed if key not in given])
    return [("back", key, given.get(key, 0)) for key in both if given.get(key, 0) != changed.get(key, 0)]


def entries_told(state):
    """Return the list of the entries of the least stack of a state, those back in the order of their keys."""
    entries = []
    for at in range(1, len(state)):
        entries.append(("group", state[at][1]))
        entries.extend(backs_between(state[at - 1][0], state[at][0]))
    return entries


class Keeping:
    """A stack while deeds are done: its numbers, and the list of its entries, by a way of keeping."""

    def __init__(self, state, way):
        self.numbers = {key: number for key, number in state[-1][0]}
        self.entries = entries_told(state)
        self.way = way

    def number_now(self, key):
        """Return the number of a key."""
        return self.numbers.get(key, 0)

    def many_back(self):
        """Return how many entries back stand."""
        return len([entry for entry in self.entries if entry[0] == "back"])

    def last_group(self):
        """Return the index of the last entry of a group; without one, raise NoGroup."""
        for at in range(len(self.entries) - 1, -1, -1):
            if self.entries[at][0] == "group":
                return at
        raise NoGroup("group")

    def begin(self):
        """Begin a group."""
        self.entries.append(("group", ()))

    def end(self):
        """End the last group, giving back."""
        at = self.last_group()
        for entry in reversed(self.entries[at + 1:]):
            self.numbers[entry[1]] = entry[2]
        self.entries = self.entries[:at]

    def keep(self, token):
        """Keep a token in the last group."""
        at = self.last_group()
        self.entries[at] = ("group", self.entries[at][1] + (token,))

    def asks_back(self, key):
        """Return whether what a key has is to be kept ahead of a change."""
        if not self.entries:
            return False
        if self.way == "each":
            return True
        behind = self.entries[self.last_group() + 1:]
        return key not in [entry[1] for entry in behind]

    def change(self, key, number, wide):
        """Change a key in the last group, or in all."""
        if wide:
            self.entries = [entry for entry in self.entries if entry[0] == "group" or entry[1] != key]
        elif self.asks_back(key):
            self.entries.append(("back", key, self.number_now(key)))
        self.numbers[key] = number

    def do(self, deed):
        """Do a deed; what is told does not matter here."""
        word = deed[0]
        if word == "begin":
            self.begin()
        elif word == "end":
            self.end()
        elif word == "after":
            self.keep(deed[1])
        elif word == "set":
            self.change(deed[1], deed[2], deed[3])
        elif word == "more":
            self.change(deed[1], self.number_now(deed[1]) + deed[2], deed[3])
        elif word == "copy":
            self.change(deed[1], self.number_now(deed[2]), deed[3])


def state_told(stack):
    """Return the state that a stack tells."""
    need_stack(stack)
    return groups_told(stack)


def least_stack(state):
    """Return a stack of a state with the fewest entries."""
    need_state(state)
    return (state[-1][0], tuple(entries_told(state)))


def stack_by(state, deeds, way):
    """Return the stack to which deeds lead by a way of keeping, and the most entries back that stand at any moment."""
    need_state(state)
    need_deeds(deeds)
    if way not in ("each", "first"):
        raise InvalidWay("way")
    keeping = Keeping(state, way)
    most = keeping.many_back()
    for deed in deeds:
        keeping.do(deed)
        most = max(most, keeping.many_back())
    return ((numbers_told(keeping.numbers), tuple(keeping.entries)), most)
