"""Stories as texts: rows of words, with the texts of their worlds."""

from farheld.errors import BadText
from farheld.ratios import parse_ratio, ratio_text
from farheld.stories import Story
from farheld.worldtext import lot_word, parse_lot, parse_whole, parse_world, world_text

# The words of the first heads, and those that may begin a later one.
FIRST_WORDS = ("liars", "start", "world")
DEED_WORDS = ("plan", "tick", "silent", "world")


def story_text(story):
    """Return the text of a story."""
    rows = [f"liars {lot_word(story.liars)}"]
    rows.append(" ".join(["start"] + [ratio_text(one) for one in story.start]))
    rows.append(_world_rows(story.world))
    for deed in story.deeds:
        if deed[0] == "world":
            rows.append(_world_rows(deed[1]))
        elif deed[0] == "tick":
            _, pushes, lies, outcomes = deed
            words = [",".join([ratio_text(push) for push in pushes]), lot_word(lies), lot_word(outcomes)]
            rows.append(" ".join(["tick"] + words))
        else:
            rows.append(f"{deed[0]} {deed[1]}")
    return "\n".join(rows)


def parse_story(text):
    """Return the story that has a text."""
    rows = text.split("\n")
    heads = []
    at = 0
    while at < len(rows):
        words = rows[at].split(" ")
        _check_head(at, len(heads), words)
        told = _read_head(at, words)
        at += 1
        if words[0] == "world":
            many = told[0]
            if many > len(rows) - at:
                raise BadText(len(rows), "lacking")
            told = [parse_world("\n".join(rows[at:at + many]))]
            at += many
        heads.append((words[0], told))
    if len(heads) < len(FIRST_WORDS):
        raise BadText(len(rows), "lacking")
    story = _story_of(heads)
    if story_text(story) != text:
        raise BadText(0, "order")
    return story


def _world_rows(world):
    text = world_text(world)
    rows = text.split("\n")
    return "\n".join([f"world {len(rows)}"] + rows)


def _check_head(at, place, words):
    """Raise BadText unless a head with this place among the heads has a due word and a due number of words."""
    due = (FIRST_WORDS[place],) if place < len(FIRST_WORDS) else DEED_WORDS
    if words[0] not in due:
        raise BadText(at, "word")
    if words[0] == "start":
        is_due = len(words) > 1
    else:
        is_due = len(words) == (4 if words[0] == "tick" else 2)
    if not is_due:
        raise BadText(at, "size")


def _read_head(at, words):
    """Return what the words of a head behind the first one tell."""
    word = words[0]
    if word == "start":
        told = [parse_ratio(one) for one in words[1:]]
    elif word == "tick":
        told = [_parse_ratios(words[1]), parse_lot(words[2]), parse_lot(words[3])]
    elif word == "liars":
        told = [parse_lot(words[1])]
    else:
        told = [parse_whole(words[1])]
    if None in told:
        raise BadText(at, "number")
    return told


def _parse_ratios(word):
    """Return the ratios of a word with commas, None for any other word."""
    told = [parse_ratio(part) for part in word.split(",")]
    return None if None in told else told


def _story_of(heads):
    _, liars = heads[0]
    _, start = heads[1]
    _, worlds = heads[2]
    deeds = []
    for word, told in heads[len(FIRST_WORDS):]:
        parts = [tuple(one) if isinstance(one, list) else one for one in told]
        deeds.append((word,) + tuple(parts))
    return Story(worlds[0], tuple(start), tuple(liars[0]), tuple(deeds))
