"""Words, meanings, keys, values and levels."""

from settlepages.kinds import kind_in, usual_kind

TESTS = ("equal", "less", "alike", "meaning", "kindis", "free")
WORKED_WORDS = (
    "text", "first", "word", "else", "endtest", "equal", "less", "alike", "meaning", "kindis", "free",
)
SETTINGS = ("num", "len", "row", "kind", "more", "rule", "made", "let", "everywhere")
DONE_WORDS = (
    "num", "len", "row", "kind", "more", "rule", "made", "let", "everywhere",
    "after", "box", "kern", "place", "space", "mark", "par", "stop", "still", "endword",
)


def is_word(word):
    """Return whether a name is one of the words of the language."""
    return word in WORKED_WORDS or word in DONE_WORDS


def key_of_token(token):
    """Return the key of the meaning of a token, or None for one that means itself."""
    if token[0] == "name":
        return ("name", token[1])
    if token[0] == 7:
        return ("alone", token[1])
    return None


def value_at_first(key):
    """Return the value that a key has at the beginning."""
    sort, word = key
    if sort == "kind":
        return usual_kind(word)
    if sort == "name":
        return ("word", word) if is_word(word) else None
    if sort == "alone":
        return None
    if sort == "row":
        return ()
    return 0


class Level:
    """A level: kinds and other values are dicts of what is not as at the beginning."""

    def __init__(self, label, kinds, settings, kept):
        self.label = label
        self.kinds = kinds
        self.settings = settings
        self.kept = kept

    def value(self, key):
        """Return the value of a key."""
        if key[0] == "kind":
            return kind_in(self.kinds, key[1])
        if key in self.settings:
            return self.settings[key]
        return value_at_first(key)

    def put_value(self, key, value):
        """Set a key; one that is as at the beginning is not kept."""
        place, name = (self.kinds, key[1]) if key[0] == "kind" else (self.settings, key)
        if value == value_at_first(key):
            if name in place:
                del place[name]
        else:
            place[name] = value

    def keys_set(self):
        """Return the ascending list of all keys that are not as at the beginning."""
        return sorted([("kind", sign) for sign in self.kinds] + list(self.settings))

    def told(self):
        """Return the level as a triple (sort, values, kept)."""
        pairs = tuple([(key, self.value(key)) for key in self.keys_set()])
        return (self.label, pairs, tuple(self.kept))

    def begun(self, label):
        """Return a new level with the same values, and nothing kept."""
        kinds = {sign: self.kinds[sign] for sign in self.kinds}
        settings = {key: self.settings[key] for key in self.settings}
        return Level(label, kinds, settings, [])


def level_of(told):
    """Return the level that a triple (sort, values, kept) tells."""
    label, pairs, kept = told
    kinds = {key[1]: value for key, value in pairs if key[0] == "kind"}
    settings = {key: value for key, value in pairs if key[0] != "kind"}
    return Level(label, kinds, settings, list(kept))


def keys_changed(left, last):
    """Return the ascending list of the keys whose values differ between two levels."""
    both = {key: True for key in left.keys_set() + last.keys_set()}
    return [key for key in sorted(both) if left.value(key) != last.value(key)]
