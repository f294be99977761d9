"""Worlds as texts: rows of words."""

from farheld.channels import Channel
from farheld.errors import BadText
from farheld.plants import Plant
from farheld.ratios import parse_ratio, ratio_text
from farheld.worlds import Sensor, World

# Which words may begin a row behind a row of the word.
NEXT_WORDS = {"": ("mode",), "mode": ("mode", "sensor", "lot"), "sensor": ("sensor", "lot"), "lot": ("lot",)}


def world_text(world):
    """Return the text of a world."""
    rows = []
    plant = world.plant
    for push, start, factors in zip(plant.pushes, plant.starts, plant.factors):
        rows.append(" ".join(["mode"] + [ratio_text(one) for one in (push, start) + factors]))
    for sensor in world.sensors:
        rows.append(f"sensor {list_word(sensor.seen)} {sensor.channel.outcomes}")
        for use in sensor.channel.table:
            rows.append(" ".join([list_word(heard) for heard in use]))
    for lot in world.lots:
        rows.append(f"lot {lot_word(lot)}")
    return "\n".join(rows)


def parse_world(text):
    """Return the world that has a text."""
    rows = text.split("\n")
    modes, sensors, lots = _read_rows([row.split(" ") for row in rows])
    plant = Plant([mode[2:] for mode in modes], [mode[0] for mode in modes], [mode[1] for mode in modes])
    made = [Sensor(seen, Channel(outcomes, table)) for seen, outcomes, table in sensors]
    world = World(plant, made, lots)
    if world_text(world) != text:
        raise BadText(0, "order")
    return world


def list_word(numbers):
    """Return the list word of whole numbers of 0 or more, at least one."""
    return ",".join([str(number) for number in numbers])


def lot_word(lot):
    """Return the word of a lot."""
    return list_word(lot) if lot else "-"


def parse_whole(word):
    """Return the whole number of 0 or more of a whole word, None for any other word."""
    one = parse_ratio(word)
    if one is None or one[1] != 1 or one[0] < 0:
        return None
    return one[0]


def parse_list(word):
    """Return the numbers of a list word, None for any other word."""
    numbers = [parse_whole(part) for part in word.split(",")]
    return None if None in numbers else numbers


def parse_lot(word):
    """Return the lot of a word as a list, None for any other word."""
    return [] if word == "-" else parse_list(word)


def _read_rows(rows):
    """Return what the rows tell of the modes, of the sensors and of the lots."""
    modes, sensors, lots = [], [], []
    last = ""
    at = 0
    while at < len(rows):
        words = rows[at]
        if words[0] not in NEXT_WORDS[last]:
            raise BadText(at, "word")
        last = words[0]
        if last == "mode":
            modes.append(_read_mode(at, words))
        elif last == "lot":
            lots.append(_read_lot(at, words))
        else:
            seen, outcomes = _read_sensor(at, words)
            phases = len(modes[0]) - 2
            sensors.append((seen, outcomes, _read_table(rows, at + 1, phases)))
            at += phases
        at += 1
    if not lots:
        raise BadText(len(rows), "lacking")
    return (modes, sensors, lots)


def _read_mode(at, words):
    if len(words) < 4:
        raise BadText(at, "size")
    return _all_read(at, [parse_ratio(word) for word in words[1:]])


def _read_sensor(at, words):
    if len(words) != 3:
        raise BadText(at, "size")
    return _all_read(at, [parse_list(words[1]), parse_whole(words[2])])


def _read_lot(at, words):
    if len(words) != 2:
        raise BadText(at, "size")
    return _all_read(at, [parse_lot(words[1])])[0]


def _read_table(rows, first, phases):
    table = []
    for at in range(first, first + phases):
        if at >= len(rows):
            raise BadText(len(rows), "lacking")
        table.append(_all_read(at, [parse_list(word) for word in rows[at]]))
    return table


def _all_read(at, things):
    if None in things:
        raise BadText(at, "number")
    return things
