"""Moves and rules: what a controller and a coder do in one state, checked and kept as tuples."""

from farheld.errors import BadProgram
from farheld.forms import kept_form
from farheld.ratios import is_whole
from farheld.sequences import is_ascending, is_couple, is_sequence, settled

MOST_LOOKS = 3
MOST_THRESHOLDS = 100
MOST_REPLIES = 10000
MOST_REGISTERS = 24


def kept_move(thing, states, registers, modes):
    """Return a move as tuples, or raise BadProgram."""
    if not is_sequence(thing, 3, 3) or not is_whole(thing[0], 0, states - 1):
        raise BadProgram("controller", "move")
    changes = _kept_forms(thing[1], registers, registers)
    if changes is None:
        raise BadProgram("controller", "changes")
    steps = _kept_forms(thing[2], modes, registers)
    if steps is None:
        raise BadProgram("controller", "steps")
    return settled(thing, (thing[0], changes, steps))


def kept_row(thing, states, outcomes, registers, modes):
    """Return a state's row (heeds, moves) as tuples, or raise BadProgram."""
    if not is_couple(thing):
        raise BadProgram("controller", "row")
    heeds, moves = thing
    if not is_ascending(heeds, 0, len(outcomes), len(outcomes)):
        raise BadProgram("controller", "heeds")
    due = 1
    for sensor in heeds:
        due *= outcomes[sensor]
    if not is_sequence(moves, due, due):
        raise BadProgram("controller", "moves")
    return (tuple(heeds), tuple([kept_move(move, states, registers, modes) for move in moves]))


def kept_rule(thing, words, modes, memories):
    """Return a coder's rule (recall, looks, replies) as tuples, or raise BadProgram."""
    if not is_sequence(thing, 3, 3) or not isinstance(thing[0], bool):
        raise BadProgram("coder", "rule")
    recall, looks, replies = thing
    if not is_sequence(looks, 0, MOST_LOOKS):
        raise BadProgram("coder", "looks")
    kept_looks = [_kept_look(look, modes) for look in looks]
    if None in kept_looks:
        raise BadProgram("coder", "looks")
    due = memories if recall else 1
    for _, thresholds in kept_looks:
        due *= len(thresholds) + 1
    if due > MOST_REPLIES or not is_sequence(replies, due, due):
        raise BadProgram("coder", "replies")
    return (recall, tuple(kept_looks), tuple([kept_reply(reply, words, memories) for reply in replies]))


def kept_reply(thing, words, memories):
    """Return a coder's reply as a tuple, or raise BadProgram."""
    if not is_couple(thing) or not is_whole(thing[0], 0, words - 1):
        raise BadProgram("coder", "replies")
    if thing[1] is not None and not is_whole(thing[1], 0, memories - 1):
        raise BadProgram("coder", "replies")
    return settled(thing, (thing[0], thing[1]))


def _kept_look(thing, modes):
    """Return a look as tuples, None for any other thing."""
    if not is_couple(thing) or not is_whole(thing[0]) or thing[0] not in modes:
        return None
    if not is_sequence(thing[1], 0, MOST_THRESHOLDS):
        return None
    thresholds = [kept_form(form, MOST_REGISTERS) for form in thing[1]]
    return None if None in thresholds else (thing[0], tuple(thresholds))


def _kept_forms(thing, below, registers):
    """Return a sequence of couples (number, form), numbers ascending, as tuples; None for any other thing."""
    if not is_sequence(thing):
        return None
    told = []
    low = 0
    for couple in thing:
        if not is_couple(couple) or not is_whole(couple[0], low, below - 1):
            return None
        form = kept_form(couple[1], registers)
        if form is None:
            return None
        told.append(settled(couple, (couple[0], form)))
        low = couple[0] + 1
    return settled(thing, tuple(told))
