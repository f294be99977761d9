"""Digits: how the cells of the modes are told together by the messages of the sensors.

Counts have a row for each mode and in it for each sensor the number of parts that it tells.
"""


def count_cells(counts, mode):
    """Return how many cells a mode has."""
    return multiplied(counts[mode])


def count_told(counts, sensor):
    """Return how many messages a sensor has."""
    return multiplied(_bases_of(counts, sensor))


def cell_digits(counts, mode, cell):
    """Return the digit of each sensor in the number of a cell."""
    return digits_of(counts[mode], cell)


def join_cell(counts, mode, digits):
    """Return the cell that has these digits, sensor by sensor."""
    return joined_by(counts[mode], digits)


def sensor_message(counts, sensor, cells):
    """Return the message that a sensor has for these cells, mode by mode."""
    digits = [cell_digits(counts, mode, cell)[sensor] for mode, cell in enumerate(cells)]
    return joined_by(_bases_of(counts, sensor), digits)


def message_digits(counts, sensor, message):
    """Return the digit of each mode in a sensor's message."""
    return digits_of(_bases_of(counts, sensor), message)


def join_cells(counts, messages):
    """Return the cell of each mode that the messages of all sensors tell."""
    told = [message_digits(counts, sensor, message) for sensor, message in enumerate(messages)]
    return tuple([join_cell(counts, mode, [digits[mode] for digits in told]) for mode in range(len(counts))])


def _bases_of(counts, sensor):
    return [row[sensor] for row in counts]


def multiplied(numbers):
    """Return the product of whole numbers, 1 for none."""
    product = 1
    for number in numbers:
        product *= number
    return product


def digits_of(bases, number):
    """Return the digits of a number by these bases; the first one leads."""
    digits = []
    rest = number
    for base in reversed(list(bases)):
        digits.append(rest % base)
        rest = rest // base
    return tuple(digits[::-1])


def joined_by(bases, digits):
    """Return the number that has these digits by these bases."""
    number = 0
    for base, digit in zip(bases, digits):
        number = number * base + digit
    return number
