from farheld.channels import Channel
from farheld.errors import BadChannel, BadLots, BadPlant, BadSensor, BadText, BadWorld
from farheld.plants import Plant
from farheld.worlds import Sensor, World
from farheld.worldtext import parse_world, world_text
from tests.helpers import HeldTest, clean_world, whole

TEXT = """mode 1 0 3 -2
mode 2/3 5 1/2 1/3
sensor 0,1 3
0 1,2
0,1 1,2
sensor 1 2
0 1
0 1
lot 0
lot 1"""
WORLD = World(
    Plant([whole(3, -2), ((1, 2), (1, 3))], ((1, 1), (2, 3)), whole(0, 5)),
    [Sensor((0, 1), Channel(3, [[(0,), (1, 2)], [(0, 1), (1, 2)]])), Sensor((1,), Channel.clean(2, 2))],
    [[1], [0]],
)


def with_row(at, row):
    rows = TEXT.split("\n")
    rows[at] = row
    return "\n".join(rows)


class WorldTextTest(HeldTest):
    def bad_text(self, row, what, text):
        self.raises(BadText, {"row": row, "what": what}, parse_world, text)

    def test_both_ways(self):
        self.assertEqual(world_text(WORLD), TEXT)
        self.assertEqual(parse_world(TEXT), WORLD)
        for world in (
            clean_world((2, 1), 12, 4, [[0, 1], [2, 3]]), World(Plant([[(-1, 10 ** 290)]], whole(1), whole(0)), []),
            WORLD.repeated(2),
        ):
            self.assertEqual(parse_world(world_text(world)), world)
        self.assertEqual(world_text(World(Plant([whole(2)], whole(1), whole(0)), [])), "mode 1 0 2\nlot -")

    def test_word(self):
        for row in ("", " ", "Mode 1 0 2", "sensor 0 1", "lot -", " mode 1 0 2", "mode\t1 0 2", "modes"):
            self.bad_text(0, "word", row)
        self.bad_text(0, "word", "\nmode 1 0 2\nlot -")
        self.bad_text(1, "word", "mode 1 0 2\n\nlot -")
        self.bad_text(2, "word", "mode 1 0 2\nlot -\n")
        self.bad_text(2, "word", "mode 1 0 2\nlot -\nsensor 0 1\n0\nlot -")
        self.bad_text(2, "word", "mode 1 0 2\nlot -\nmode 1 0 2")
        self.bad_text(3, "word", "mode 1 0 2\nsensor 0 1\n0\nmode 1 0 2\nlot -")
        # One phase row more than factors.
        self.bad_text(5, "word", with_row(4, "0,1 1,2\n0,1"))

    def test_size(self):
        for row in ("mode", "mode x", "mode 1 0", "mode x y"):
            self.bad_text(0, "size", row)
            self.bad_text(1, "size", with_row(1, row))
        for row in ("sensor", "sensor x", "sensor 0 1 2", "sensor x y z", "sensor 0  2"):
            self.bad_text(2, "size", with_row(2, row))
        for row in ("lot", "lot x y", "lot 0 1", "lot 0 "):
            self.bad_text(8, "size", with_row(8, row))

    def test_number(self):
        for row in ("mode 1  2", "mode 1 0 2 ", "mode 01 0 2", "mode 1 +0 2", "mode 1 0 2/4", "mode 1 0 -0", "mode 1 0 x"):
            self.bad_text(0, "number", row)
        for row in ("sensor - 3", "sensor 0, 3", "sensor ,0 3", "sensor -1 3", "sensor 0;1 3", "sensor 0,01 3", "sensor  3",
                    "sensor 1/2 3", "sensor 0 -3", "sensor 0 3/2", "sensor 0 x", "sensor 0 1,2", "sensor 0 "):
            self.bad_text(2, "number", with_row(2, row))
        for row in ("", " ", "0  1", "0 1 ", "- 1", "0 -1", "0 1,,2", "0 a", "0 1/2", "lot 0"):
            self.bad_text(3, "number", with_row(3, row))
        for row in ("lot ", "lot x", "lot 0,", "lot -1", "lot --", "lot 0,-"):
            self.bad_text(8, "number", with_row(8, row))

    def test_length_of_number_words(self):
        self.bad_text(0, "number", "mode 1 0 " + "9" * 301)
        self.assertEqual(parse_world("mode 1 0 " + "9" * 300 + "\nlot -").plant.factors, (whole(10 ** 300 - 1),))

    def test_lacking(self):
        rows = TEXT.split("\n")
        for many in (1, 2, 3, 4, 5, 6, 7, 8):
            self.bad_text(many, "lacking", "\n".join(rows[:many]))
        self.bad_text(0, "word", "")
        # The first mode row tells how many phase rows are due, the second one is not asked.
        self.bad_text(4, "number", "mode 1 0 2 2\nmode 1 0 2\nsensor 0 1\n0\nlot -")
        self.bad_text(4, "lacking", "mode 1 0 2 2\nmode 1 0 2\nsensor 0 1\n0")

    def test_row_by_row(self):
        self.bad_text(2, "size", "mode 1 0 2\nlot -\nlot\nx")
        self.bad_text(1, "number", with_row(1, "mode 1 0 x").replace("lot 0", "lot"))
        self.bad_text(0, "size", "mode x\nsensor")

    def test_errors_of_constructors(self):
        self.raises(BadPlant, {"what": "factor", "mode": 0}, parse_world, "mode 1 0 0\nlot 9")
        self.raises(BadPlant, {"what": "push", "mode": 0}, parse_world, "mode -1 -1 2\nlot -")
        self.raises(BadPlant, {"what": "start", "mode": 0}, parse_world, "mode 1 -1 2\nlot -")
        self.raises(BadPlant, {"what": "row", "mode": 1}, parse_world, "mode 1 0 2\nmode 1 0 2 2\nlot -")
        self.raises(BadPlant, {"what": "row", "mode": 0}, parse_world, "mode 1 0 2 2 2 2 2\nlot -")
        self.raises(BadPlant, {"what": "factors", "mode": 0}, parse_world, "mode 1 0 2\n" * 4 + "lot -")
        bad_channel = {"what": "outcomes", "phase": 0, "word": 0}
        self.raises(BadChannel, bad_channel, parse_world, "mode 1 0 2\nsensor 9 0\n0\nlot -")
        bad_channel = {"what": "row", "phase": 0, "word": 1}
        self.raises(BadChannel, bad_channel, parse_world, "mode 1 0 2\nsensor 9 2\n0 2\nlot -")
        two = "mode 1 0 2\nsensor 9 2\n0 1\nsensor 0 2\n3\nlot -"
        self.raises(BadSensor, {"what": "seen"}, parse_world, two)
        self.raises(BadWorld, {"what": "seen", "sensor": 0}, parse_world, "mode 1 0 2\nsensor 1 2\n0 1\nlot 9")
        self.raises(BadWorld, {"what": "sensors", "sensor": 0}, parse_world, "mode 1 0 2\n" + "sensor 0 1\n0\n" * 5 + "lot -")
        self.raises(BadLots, {"index": 0, "what": "many"}, parse_world, "mode 1 0 2\n" + "\n".join(["lot -"] * 17))
        self.raises(BadLots, {"index": 1, "what": "sensor"}, parse_world, "mode 1 0 2\nlot -\nlot 0")

    def test_order(self):
        self.bad_text(0, "order", with_row(8, "lot 1").replace("lot 1\nlot 1", "lot 1\nlot 0"))
        self.bad_text(0, "order", "mode 1 0 2\nlot -\nlot -")
        self.bad_text(0, "order", TEXT + "\nlot -")
        self.bad_text(0, "order", "mode 1 0 2\nsensor 0 1\n0\nlot 0,0")
