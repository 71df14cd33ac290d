"""Codes: what rows come to in all cases of choices."""

from settlepages.checks import need_answers
from settlepages.errors import InvalidRowCode
from settlepages.keyvalues import is_pair, is_row_of_tokens
from settlepages.kinds import is_integer_within
from settlepages.rowworks import all_cases, end_of_row, need_case, need_choices, need_plain_row, need_values
from settlepages.rowworks import values_of_case

MOST_LINES = 600
LONGEST_END = 400
LONGEST_ERROR = 20
WORD_LETTERS = "abcdefghijklmnopqrstuvwxyz"


class Coder:
    """Makes the least code of a row: lines, each told once, behind all of its own."""

    def __init__(self, values, choices, row, answers):
        self.settings = values
        self.choices = choices
        self.row = row
        self.answers = answers
        self.code = []
        self.numbers = {}

    def number_of(self, line):
        """Return the index of a line, which is told now if it was not yet."""
        if line not in self.numbers:
            self.numbers[line] = len(self.code)
            self.code.append(line)
        return self.numbers[line]

    def coded(self, begun):
        """Return the index of the line that tells all cases that begin with some indices."""
        if len(begun) == len(self.choices):
            values = values_of_case(self.settings, self.choices, begun)
            return self.number_of(("end", end_of_row(values, self.row, self.answers)))
        key, options = self.choices[len(begun)]
        ats = [self.coded(begun + (at,)) for at in range(len(options))]
        # A key that changes nothing is not asked.
        if ats.count(ats[0]) == len(ats):
            return ats[0]
        return self.number_of(("ask", key, tuple(ats)))


def code_of(values, choices, row, answers):
    """Return the least code of a row."""
    coder = Coder(values, choices, row, answers)
    coder.coded(())
    return tuple(coder.code)


def is_error_word(value):
    """Return whether any value is a word of 1 to 20 letters from "a" to "z"."""
    if not isinstance(value, str) or not 1 <= len(value) <= LONGEST_ERROR:
        return False
    return all([letter in WORD_LETTERS for letter in value])


def is_end(value):
    """Return whether any value is an end to which some row comes."""
    if value == ("more",):
        return True
    if not is_pair(value):
        return False
    if value[0] == "row":
        return is_row_of_tokens(value[1], LONGEST_END)
    return value[0] == "error" and is_error_word(value[1])


def is_line(sizes, value, number):
    """Return whether any value is the line with this index of a code; sizes has the number of options of each key."""
    if is_pair(value):
        return value[0] == "end" and is_end(value[1])
    if not isinstance(value, tuple) or len(value) != 3 or value[0] != "ask":
        return False
    _, key, ats = value
    if not is_pair(key) or not isinstance(key[0], str) or not isinstance(key[1], str) or key not in sizes:
        return False
    if not isinstance(ats, tuple) or len(ats) != sizes[key]:
        return False
    return all([is_integer_within(at, 0, number - 1) for at in ats])


def is_code_for(choices, value):
    """Return whether any value is a code for choices."""
    if not isinstance(value, tuple) or not 1 <= len(value) <= MOST_LINES:
        return False
    sizes = {key: len(options) for key, options in choices}
    return all([is_line(sizes, line, number) for number, line in enumerate(value)])


def end_told(choices, code, case):
    """Return the end that a code tells in a case."""
    chosen = {pair[0]: at for pair, at in zip(choices, case)}
    line = code[len(code) - 1]
    while line[0] == "ask":
        line = code[line[2][chosen[line[1]]]]
    return line[1]


def least_code(values, choices, row, answers):
    """Return the least code of a row."""
    need_values(values)
    need_choices(choices)
    need_plain_row(row)
    need_answers(answers)
    return code_of(values, choices, row, answers)


def is_row_code(choices, value):
    """Return whether any value is a code for choices."""
    need_choices(choices)
    return is_code_for(choices, value)


def code_told(choices, code, case):
    """Return the end that a code tells in a case."""
    need_choices(choices)
    if not is_code_for(choices, code):
        raise InvalidRowCode("code")
    need_case(choices, case)
    return end_told(choices, code, case)


def unlike_case(values, choices, row, other_row):
    """Return any case in which two rows come to unlike ends, or None."""
    need_values(values)
    need_choices(choices)
    need_plain_row(row)
    need_plain_row(other_row)
    for case in all_cases(choices):
        changed = values_of_case(values, choices, case)
        if end_of_row(changed, row, ()) != end_of_row(changed, other_row, ()):
            return case
    return None


def needed_keys(values, choices, row):
    """Return the ascending list of the keys in the least code of a row."""
    need_values(values)
    need_choices(choices)
    need_plain_row(row)
    keys = {line[1]: True for line in code_of(values, choices, row, ()) if line[0] == "ask"}
    return sorted(keys)
