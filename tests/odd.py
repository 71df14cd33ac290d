"""Values of all the sorts that callers may pass, and a check of the errors that wrong ones raise."""

from settlepages.errors import SettleError, TooMany
from settlepages.readers import Reader


def deep_tuple(depth):
    value = ()
    for _ in range(depth):
        value = (value,)
    return value


def deep_list(depth):
    value = []
    for _ in range(depth):
        value = [value]
    return value


# None of these is a valid argument of a function of the package, but for those that take any value, and as told there.
ODD = (
    None, True, False, -1, 10 ** 119, -(10 ** 119), "X" * 4000, "\\", "ab", "a b", [], [[]], ["a\n"], [("a", 6)],
    (None,), ((),), ((), ()), (None, 1), ("a", "b", 3), (1, 2, "x"), tuple(range(1000)), list(range(1000)),
    deep_tuple(99), deep_list(99), TooMany(3), SettleError("x"), [None, True, -5, "x", [(), []]],
    (True, 1), ("name", "a"), (5, "a"), ((5, "a"), [4, " "]), ((True, "a"),), (("name",),), Reader(), [Reader()], (Reader(),),
    ((Reader(), 1),), (Reader(), Reader(), Reader()), ("num", Reader()), ((("num", "0"), Reader()),),
)


def raised(function, arguments):
    """Return the class of the error that a call raises, or None."""
    try:
        function(*arguments)
    except SettleError as error:
        return type(error)
    return None


def check_wrong(case, function, good, errors, wrong=(), right=()):
    """Check that each wrong argument raises its error, ahead of all that stands behind it.

    errors has the error of each argument, None for one that may be any value; wrong has, by the index
    of an argument, further wrong values, right those odd ones that are not wrong there. All else is good.
    """
    further, fine = dict(wrong), dict(right)
    for index, error in enumerate(errors):
        if error is None:
            continue
        odd = [value for value in ODD if value not in fine.get(index, ())]
        for value in odd + list(further.get(index, ())):
            arguments = list(good)
            arguments[index] = value
            case.assertIs(raised(function, arguments), error, (function.__name__, index, value))
            for later in range(index + 1, len(good)):
                arguments[later] = None
            case.assertIs(raised(function, arguments), error, (function.__name__, index, value, "first"))
