"""How tokens are done, and how a run goes from turn to turn."""

from settlepages.meanings import SETTINGS, TESTS, keys_changed
from settlepages.runstate import Fault, OutOfSteps, Stopped, closing_end, error_end
from settlepages.working import GREATEST, got_figure, got_number, got_row, got_sign, got_worked
from settlepages.working import got_worked_behind_spaces, is_figure, is_worked, rest_of_row, work_out

EQUALS = (6, "=")
FARTHEST_PLACE = 10000
MOST_PARAMETERS = 4


def begin_level(run, label):
    """Begin one more level."""
    run.level_row.append(run.level_row[-1].begun(label))
    if label == "box":
        run.rows.append([])
    run.tell(("level", label))


def leave_level(run, step):
    """Leave the last level."""
    if len(run.level_row) == 1:
        raise Fault("extra")
    left = run.level_row.pop()
    things = tuple(run.rows.pop()) if left.label == "box" else ()
    run.tell(("left", left.label))
    changed = keys_changed(left, run.level_row[-1])
    for key in changed:
        run.tell(("back", key))
    run.put_ahead(left.kept, step)
    if left.label == "box":
        run.bring(("box", things))


def bring_space(run):
    """Bring what a token of the kind 4 brings."""
    width, stretch, shrink = [run.value(("len", figure)) for figure in ("0", "1", "2")]
    run.bring(("space", width, stretch, 0, shrink, 0))


def do_plain(run, token, step):
    """Do a token of one of the kinds 1 to 6."""
    kind = token[0]
    if kind == 1:
        begin_level(run, "brace")
    elif kind == 2:
        leave_level(run, step)
    elif kind == 3:
        raise Fault("parameter")
    elif kind == 4:
        bring_space(run)
    else:
        run.bring(("sign", token[1]))


def pass_equals(run):
    """Let spaces go, and an equals sign, if it is next; tokens are got worked out."""
    found = got_worked_behind_spaces(run)
    if found[0] != EQUALS:
        run.put_back(found)


def set_number(run, word, wide):
    """Do num or len."""
    key = (word, got_figure(run, 7, "register"))
    pass_equals(run)
    run.set_value(key, got_number(run), wide)


def set_row(run, word, wide):
    """Do row."""
    key = (word, got_figure(run, 7, "register"))
    pass_equals(run)
    run.set_value(key, got_row(run, False), wide)


def set_kind(run, word, wide):
    """Do kind."""
    key = (word, got_sign(run))
    pass_equals(run)
    run.set_value(key, int(got_figure(run, 9, "number")), wide)


def set_more(run, word, wide):
    """Do more."""
    sort = run.word_meant(got_worked(run)[0])
    if sort not in ("num", "len"):
        raise Fault("register")
    key = (sort, got_figure(run, 7, "register"))
    number = got_number(run)
    number = run.value(key) + number
    if abs(number) > GREATEST:
        raise Fault("number")
    run.set_value(key, number, wide)


def got_name_key(run):
    """Get a name, or a token of the kind 7, and return the key of its meaning."""
    sort, word = run.got()[0]
    if sort == "name":
        return ("name", word)
    if sort != 7:
        raise Fault("name")
    return ("alone", word)


def got_ends(run):
    """Get the parameters of a rule and its begin, and return the ends of the parameters."""
    ends = []
    token = run.got()[0]
    while token[0] == 3:
        figure = run.got()[0]
        if len(ends) == MOST_PARAMETERS or figure != (6, str(len(ends) + 1)):
            raise Fault("rule")
        token = run.got()[0]
        if token[0] in (1, 2, 3):
            ends.append(None)
        else:
            ends.append(token)
            token = run.got()[0]
    if token[0] != 1:
        raise Fault("rule")
    return tuple(ends)


def body_told(tokens, many):
    """Return the body that a row tells, with so many parameters."""
    body = []
    at = 0
    while at < len(tokens):
        if tokens[at][0] != 3:
            body.append(tokens[at])
            at += 1
        elif at + 1 < len(tokens) and tokens[at + 1][0] == 3:
            body.append(tokens[at])
            at += 2
        elif at + 1 < len(tokens) and is_figure(tokens[at + 1], many) and tokens[at + 1][1] != "0":
            body.append(int(tokens[at + 1][1]) - 1)
            at += 2
        else:
            raise Fault("rule")
    return tuple(body)


def are_tests_paired(run, tokens):
    """Return whether tests, elses and endtests are paired in a row, by the meanings in force."""
    have_else = []
    for token in tokens:
        word = run.word_meant(token)
        if word in TESTS:
            have_else.append(False)
        elif word == "endtest":
            if not have_else:
                return False
            have_else.pop()
        elif word == "else":
            if not have_else or have_else[-1]:
                return False
            have_else[-1] = True
    return not have_else


def set_rule(run, word, wide):
    """Do rule or made."""
    key = got_name_key(run)
    ends = got_ends(run)
    tokens = rest_of_row(run, word == "made")
    body = body_told(tokens, len(ends))
    if not are_tests_paired(run, tokens):
        raise Fault("rule")
    run.set_value(key, ("rule", ends, body), wide)


def set_meaning(run, word, wide):
    """Do let."""
    key = got_name_key(run)
    run.set_value(key, run.meaning(run.got()[0]), wide)


def do_everywhere(run, word, wide):
    """Do everywhere: a setting behind it is a step of its own."""
    found = got_worked_behind_spaces(run)
    if run.word_meant(found[0]) not in SETTINGS:
        raise Fault("everywhere")
    do_step(run, found, True)


def do_after(run, word, wide):
    """Do after."""
    token = run.got()[0]
    if len(run.level_row) == 1:
        raise Fault("after")
    run.level_row[-1].kept.append(token)
    run.tell(("keep", token))


def do_box(run, word, wide):
    """Do box."""
    if run.got_behind_spaces()[0][0] != 1:
        raise Fault("box")
    begin_level(run, "box")


def do_kern(run, word, wide):
    """Do kern."""
    run.bring(("kern", got_number(run)))


def do_place(run, word, wide):
    """Do place."""
    number = got_number(run)
    if abs(number) > FARTHEST_PLACE:
        raise Fault("number")
    run.bring(("place", number))


def do_space(run, word, wide):
    """Do space."""
    numbers = [got_number(run) for _ in range(5)]
    if not 0 <= numbers[2] <= 2 or not 0 <= numbers[4] <= 2:
        raise Fault("number")
    run.bring(("space", *numbers))


def do_mark(run, word, wide):
    """Do mark."""
    run.bring(("mark", got_row(run, True)))


def do_par(run, word, wide):
    """Do par."""
    run.bring(("par",))


def do_stop(run, word, wide):
    """Do stop."""
    raise Stopped()


def do_still(run, word, wide):
    """Do still, which does nothing."""


def do_endword(run, word, wide):
    """Do endword, which belongs behind the signs of a word."""
    raise Fault("word")


DEEDS = {
    "num": set_number, "len": set_number, "row": set_row, "kind": set_kind, "more": set_more,
    "rule": set_rule, "made": set_rule, "let": set_meaning, "everywhere": do_everywhere,
    "after": do_after, "box": do_box, "kern": do_kern, "place": do_place, "space": do_space,
    "mark": do_mark, "par": do_par, "stop": do_stop, "still": do_still, "endword": do_endword,
}


def do_step(run, found, wide):
    """Do a token, which is a step; what it sets is set everywhere, if so wide."""
    step = run.begin_step("do", found)
    meaning = run.meaning(found[0])
    if meaning is None:
        raise Fault("unknown")
    if meaning[0] == "token":
        do_plain(run, meaning[1], step)
    else:
        deed = DEEDS[meaning[1]]
        deed(run, meaning[1], wide)
    run.end_step()


def take_turn(run):
    """Take the next token off, and work it out or do it; return whether there was one."""
    found = run.take()
    if found is None:
        return False
    if is_worked(run, found[0]):
        work_out(run, found)
    else:
        do_step(run, found, False)
    return True


def run_on(run):
    """Run as far as it goes; return its end, and whether it came to where there is no token to be done next."""
    try:
        while take_turn(run):
            pass
    except Fault as fault:
        return error_end(run, fault.word), False
    except OutOfSteps:
        return ("more",), False
    except Stopped:
        return closing_end(run), False
    return closing_end(run), True
