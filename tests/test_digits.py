import itertools
import random

from farheld.digits import (
    cell_digits, count_cells, count_told, join_cell, join_cells, message_digits, sensor_message,
)
from tests.helpers import HeldTest, as_lists

COUNTS = ((2, 1, 3), (1, 4, 2))


class DigitsTest(HeldTest):
    def test_numbers(self):
        for counts in (COUNTS, as_lists(COUNTS)):
            self.assertEqual([count_cells(counts, mode) for mode in range(2)], [6, 8])
            self.assertEqual([count_told(counts, sensor) for sensor in range(3)], [2, 4, 6])

    def test_sensor_0_and_mode_0_lead(self):
        self.assertEqual(cell_digits(COUNTS, 0, 5), (1, 0, 2))
        self.assertEqual(cell_digits(COUNTS, 0, 3), (1, 0, 0))
        self.assertEqual(cell_digits(COUNTS, 1, 5), (0, 2, 1))
        self.assertEqual(join_cell(COUNTS, 1, [0, 2, 1]), 5)
        self.assertEqual([sensor_message(COUNTS, sensor, (5, 5)) for sensor in range(3)], [1, 2, 5])
        self.assertEqual(message_digits(COUNTS, 2, 5), (2, 1))
        self.assertEqual(join_cells(COUNTS, [1, 2, 5]), (5, 5))

    def test_cells_in_order_have_digits_in_order(self):
        for mode, row in enumerate(COUNTS):
            digits = [cell_digits(COUNTS, mode, cell) for cell in range(count_cells(COUNTS, mode))]
            self.assertEqual(digits, list(itertools.product(*[range(many) for many in row])))
            self.are_tuples(tuple(digits))

    def test_the_messages_of_all_sensors_tell_all_cells(self):
        source = random.Random(67)
        for _ in range(40):
            modes, sensors = source.randint(1, 3), source.randint(0, 4)
            counts = [[source.choice((1, 1, 2, 3)) for _ in range(sensors)] for _ in range(modes)]
            before = [list(row) for row in counts]
            seen = set()
            for cells in itertools.islice(itertools.product(*[range(count_cells(counts, mode)) for mode in range(modes)]), 500):
                messages = [sensor_message(counts, sensor, cells) for sensor in range(sensors)]
                for sensor, message in enumerate(messages):
                    self.assertIn(message, range(count_told(counts, sensor)))
                    digits = tuple(cell_digits(counts, mode, cell)[sensor] for mode, cell in enumerate(cells))
                    self.assertEqual(message_digits(counts, sensor, message), digits)
                self.assertEqual(join_cells(counts, messages), cells)
                self.assertNotIn(tuple(messages), seen)
                seen.add(tuple(messages))
            self.assertEqual(counts, before)

    def test_no_sensors_and_great_counts(self):
        self.assertEqual((count_cells(((),), 0), cell_digits(((),), 0, 0), join_cell(((),), 0, ())), (1, (), 0))
        self.assertEqual(join_cells(((), ()), ()), (0, 0))
        big = 10 ** 150
        counts = ((big, big + 1), (1, big))
        cell = big * (big + 1) - 1
        self.assertEqual(cell_digits(counts, 0, cell), (big - 1, big))
        self.assertEqual(join_cells(counts, [sensor_message(counts, sensor, (cell, 7)) for sensor in (0, 1)]), (cell, 7))
