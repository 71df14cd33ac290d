"""Deeds on keys within groups, with terms for numbers.

A term is ("is", number), or ("old", up, key, number): what the key was in that group of a state which stands so many
groups further out than its last one, and a number more. So deeds can be done on states that are not known.
"""

from settlepages.errors import NoGroup

ZERO = ("is", 0)


class Group:
    """A group: the terms of its keys, and the list of what it tells when it ends.

    A key without a term is what it was in the group of the state that stands so many groups up; where up is None,
    it is 0.
    """

    def __init__(self, up, terms, kept):
        self.up = up
        self.terms = terms
        self.kept = kept

    def term(self, key):
        """Return the term of a key."""
        if key in self.terms:
            return self.terms[key]
        if self.up is None:
            return ZERO
        return ("old", self.up, key, 0)

    def begun(self):
        """Return a new group with the same terms, and nothing kept."""
        return Group(self.up, {key: self.terms[key] for key in self.terms}, [])

    def tokens_kept(self):
        """Return the row of the tokens kept, but for those that it kept at first, where these are not known."""
        return tuple([kept[1] for kept in self.kept if kept[0] == "token"])


class Groups:
    """The list of the groups that stand, outermost first, and the list of what was told."""

    def __init__(self, stand):
        self.stand = stand
        self.said = []

    def need_one_more(self):
        """Raise NoGroup where just one group stands."""
        if len(self.stand) == 1:
            raise NoGroup("group")

    def change(self, key, term, wide):
        """Change a key in the last group, or in all."""
        changed = self.stand if wide else self.stand[-1:]
        for group in changed:
            group.terms[key] = term


def term_more(term, number):
    """Return the term that is a number more."""
    return term[:-1] + (term[-1] + number,)


def do_begin(groups, deed):
    """Do a begin."""
    groups.stand.append(groups.stand[-1].begun())


def do_end(groups, deed):
    """Do an end."""
    groups.need_one_more()
    groups.said.extend(groups.stand.pop().kept)


def do_set(groups, deed):
    """Do a set."""
    _, key, number, wide = deed
    groups.change(key, ("is", number), wide)


def do_more(groups, deed):
    """Do a more."""
    _, key, number, wide = deed
    groups.change(key, term_more(groups.stand[-1].term(key), number), wide)


def do_copy(groups, deed):
    """Do a copy."""
    _, key, other, wide = deed
    groups.change(key, groups.stand[-1].term(other), wide)


def do_tell(groups, deed):
    """Do a tell."""
    groups.said.append(("number", groups.stand[-1].term(deed[1])))


def do_after(groups, deed):
    """Do an after."""
    groups.need_one_more()
    groups.stand[-1].kept.append(("token", deed[1]))


DOERS = {
    "begin": do_begin, "end": do_end, "set": do_set, "more": do_more, "copy": do_copy, "tell": do_tell,
    "after": do_after,
}


def do_deeds(groups, deeds):
    """Do a row of deeds."""
    for deed in deeds:
        doer = DOERS[deed[0]]
        doer(groups, deed)
