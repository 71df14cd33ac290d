"""How tokens are got and worked out.

To get a token worked out may need to work out others, which get tokens in turn: so both stand in one file.
"""

from settlepages.kinds import FIGURES, can_be_set
from settlepages.meanings import TESTS, WORKED_WORDS
from settlepages.runstate import Fault

GREATEST = 10 ** 9
LONGEST_ROW = 400
LONGEST_WORD = 20
MINUS = (6, "-")


def is_figure(token, top):
    """Return whether a token is a figure from 0 to a greatest one."""
    return token[0] == 6 and token[1] in FIGURES[:top + 1]


def got_figure(run, top, word):
    """Get a figure from 0 to a greatest one, as it is, or end with an error's word."""
    token = run.got_behind_spaces()[0]
    if not is_figure(token, top):
        raise Fault(word)
    return token[1]


def got_sign(run):
    """Get a sign."""
    token = run.got()[0]
    if token[0] != "name" or not can_be_set(token[1]):
        raise Fault("sign")
    return token[1]


def is_worked(run, token):
    """Return whether a token is one that is worked out."""
    meaning = run.meaning(token)
    if meaning is None:
        return False
    return meaning[0] == "rule" or (meaning[0] == "word" and meaning[1] in WORKED_WORDS)


def take_worked(run):
    """Take off the next token worked out, or return None if there is none."""
    found = run.take()
    while found is not None and is_worked(run, found[0]):
        work_out(run, found)
        found = run.take()
    return found


def got_worked(run):
    """Get a token worked out."""
    found = take_worked(run)
    if found is None:
        raise Fault("ends")
    return found


def got_worked_behind_spaces(run):
    """Get a token worked out, spaces going."""
    found = got_worked(run)
    while found[0][0] == 4:
        found = got_worked(run)
    return found


def number_told(run, word):
    """Return the number that num, len or kind tells."""
    if word == "kind":
        return run.value(("kind", got_sign(run)))
    return run.value((word, got_figure(run, 7, "register")))


def figures_got(run, first):
    """Return the number of a figure and of all that follow, one beyond the greatest if they pass it."""
    number = FIGURES.index(first)
    found = take_worked(run)
    while found is not None and is_figure(found[0], 9):
        number = min(10 * number + FIGURES.index(found[0][1]), GREATEST + 1)
        found = take_worked(run)
    if found is None:
        run.stood_open = True
    elif found[0][0] != 4:
        run.put_back(found)
    return number


def got_number(run):
    """Get a number."""
    turn = 1
    found = got_worked_behind_spaces(run)
    while found[0] == MINUS:
        turn = -turn
        found = got_worked_behind_spaces(run)
    word = run.word_meant(found[0])
    if word in ("num", "len", "kind"):
        return turn * number_told(run, word)
    if not is_figure(found[0], 9):
        raise Fault("number")
    number = figures_got(run, found[0][1])
    if number > GREATEST:
        raise Fault("number")
    return turn * number


def token_of_row(run, worked):
    """Get the next token of a row; behind one that means still it comes as it is."""
    if not worked:
        return run.got()[0]
    token = got_worked(run)[0]
    if run.word_meant(token) == "still":
        return run.got()[0]
    return token


def rest_of_row(run, worked):
    """Get what comes up to the end that belongs to a begin that was got."""
    tokens = []
    within = 0
    while True:
        token = token_of_row(run, worked)
        if token[0] == 2 and within == 0:
            return tuple(tokens)
        if token[0] == 1:
            within += 1
        if token[0] == 2:
            within -= 1
        if len(tokens) == LONGEST_ROW:
            raise Fault("full")
        tokens.append(token)


def got_row(run, worked):
    """Get a row, worked out or not."""
    if run.got_behind_spaces()[0][0] != 1:
        raise Fault("row")
    return rest_of_row(run, worked)


def argument_up_to(run, end):
    """Get all that comes up to a token, which goes, outside of begins and ends that are paired."""
    tokens = []
    within = 0
    while True:
        token = run.got()[0]
        if token == end and within == 0:
            return tuple(tokens)
        if token[0] == 1:
            within += 1
        if token[0] == 2:
            if within == 0:
                raise Fault("argument")
            within -= 1
        tokens.append(token)


def got_argument(run, end):
    """Get the argument for an end of a parameter."""
    if end is not None:
        return argument_up_to(run, end)
    token = run.got_behind_spaces()[0]
    if token[0] == 2:
        raise Fault("argument")
    if token[0] == 1:
        return rest_of_row(run, False)
    return (token,)


def work_rule(run, rule, step):
    """Work out a rule: its body is put ahead, with its arguments in the places of their indices."""
    arguments = [got_argument(run, end) for end in rule[1]]
    tokens = []
    for item in rule[2]:
        if isinstance(item, int):
            tokens.extend(arguments[item])
        else:
            tokens.append(item)
    run.put_ahead(tokens, step)


def tokens_of_number(number):
    """Return the tokens that tell a number."""
    return [(6, sign) for sign in str(number)]


def work_text(run, step):
    """Work out the word text."""
    word = run.word_meant(got_worked(run)[0])
    if word in ("num", "len", "kind"):
        run.put_ahead(tokens_of_number(number_told(run, word)), step)
    elif word == "row":
        run.put_ahead(run.value(("row", got_figure(run, 7, "register"))), step)
    else:
        raise Fault("register")


def work_first(run, step):
    """Work out the word first."""
    first = run.got()
    second = run.got()
    if is_worked(run, second[0]):
        work_out(run, second)
    else:
        run.put_back(second)
    run.put_back(first)


def work_word(run, step):
    """Work out the word word."""
    signs = ""
    token = got_worked(run)[0]
    while token[0] in (4, 5, 6) and len(signs) < LONGEST_WORD:
        signs += token[1]
        token = got_worked(run)[0]
    if signs == "" or run.word_meant(token) != "endword":
        raise Fault("word")
    run.put_ahead([("name", signs)], step)


def does_hold(run, word):
    """Ask what a test asks, and return whether it holds."""
    if word == "free":
        return run.answered()
    if word == "kindis":
        kind = run.value(("kind", got_sign(run)))
        return got_figure(run, 9, "number") == str(kind)
    if word in ("equal", "less"):
        one = got_number(run)
        other = got_number(run)
        return one == other if word == "equal" else one < other
    one = run.got()[0]
    other = run.got()[0]
    return one == other if word == "alike" else run.meaning(one) == run.meaning(other)


def skip_test(run, up_to_else):
    """Let tokens go up to the endtest of a test, or to an else of its own; return which word it was."""
    within = 0
    while True:
        word = run.word_meant(run.got()[0])
        if within == 0 and (word == "endtest" or (word == "else" and up_to_else)):
            return word
        if word in TESTS:
            within += 1
        elif word == "endtest":
            within -= 1


def work_test(run, word):
    """Work out a test."""
    test = [False, False]
    run.tests.append(test)
    many = len(run.tests)
    holds = does_hold(run, word)
    if len(run.tests) != many:
        raise Fault("test")
    if not holds:
        if skip_test(run, True) == "endtest":
            run.tests.pop()
            return
        test[1] = True
    test[0] = True


def work_else(run, step):
    """Work out an else."""
    if not run.tests or run.tests[-1] != [True, False]:
        raise Fault("test")
    skip_test(run, False)
    run.tests.pop()


def work_endtest(run, step):
    """Work out an endtest."""
    if not run.tests or not run.tests[-1][0]:
        raise Fault("test")
    run.tests.pop()


WORKERS = {
    "text": work_text, "first": work_first, "word": work_word, "else": work_else, "endtest": work_endtest,
}


def work_out(run, found):
    """Work a token out, which is a step."""
    step = run.begin_step("work", found)
    meaning = run.meaning(found[0])
    if meaning[0] == "rule":
        work_rule(run, meaning, step)
    elif meaning[1] in TESTS:
        work_test(run, meaning[1])
    else:
        worker = WORKERS[meaning[1]]
        worker(run, step)
    run.end_step()
