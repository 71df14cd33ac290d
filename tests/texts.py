"""Random texts for the tests, the same ones each time."""

import random

FRAGMENTS = (
    "!num0=5 ", "!num1 7 ", "!len0 3 ", "!row0(ab)", "!text!num0 ", "!text!row0 ", "!text!kind!q", "!first ",
    "!word ab!endword ", "!equal 1 1 ", "!equal 1 2 ", "!less 1 2 ", "!alike ab", "!alike aa", "!meaning!x!y",
    "!meaning!f!f", "!kindis!q6", "!free ", "!else ", "!endtest ", "!kern ", "!kern 5 ", "!place 3 ",
    "!space 1 2 0 3 1 ", "!mark(a!still b)", "!par ", "!stop ", "!still ", "!endword ", "!after a", "!after!x",
    "!box(", "(", "(", ")", ")", "!rule!f$1($1$1)", "!rule!g(ab)", "!rule!h$1.(x$1)", "!f a", "!f(ab)", "!g ",
    "!h ab.", "!let!x!y", "!let!x a", "!let!x(", "!let~!f", "~", "!made!g(!text!num0)", "!everywhere",
    "!everywhere!num0 3 ", "!more!num0 4 ", "!more!len1-2 ", "a", "b", "q", "1", "2", "-", "=", "$", ".", ";", "\n",
    "\n", " ", "!kind!q4", "!kind!q=1", "!kind!q6", "!kind!;6", "!kind!b9", "!kind!a8", "!kind!a0", "!num", "!len",
    "!row", "!kind", "!z", "!!", "!q", "! ", "!\n", "!rule!f(!f)", "!equal", "!less",
    "!free!kind!q4!else!endtest ", "!free a!else b!endtest ",
)


def random_text(source, fragments, many, longest):
    """Return a text of up to so many fragments, of at most so many signs."""
    signs = "".join(source.choice(fragments) for _ in range(source.randint(0, many)))[:longest - 1]
    return signs if signs == "" or signs.endswith("\n") else signs + "\n"


def random_texts(seed, count, many, longest=400, fragments=FRAGMENTS):
    """Return a list of texts."""
    source = random.Random(seed)
    return [random_text(source, fragments, many, longest) for _ in range(count)]


def random_answers(seed, count, most):
    """Return a list of rows of answers."""
    source = random.Random(seed)
    return [tuple(source.random() < 0.5 for _ in range(source.randint(0, most))) for _ in range(count)]
