import random
import time

from farheld.channels import Channel
from farheld.desk import Desk, retell_story
from farheld.errors import BadChannel, BadLots, BadPlant, BadText, BadWorld, HeldError
from farheld.plants import Plant
from farheld.ratios import make_ratio, times
from farheld.stories import Story
from farheld.storytext import parse_story, story_text
from farheld.worlds import Sensor, World
from farheld.worldtext import world_text
from tests.compiled import some_kept_world
from tests.helpers import HeldTest, whole
from tests.programs import some_plant_world, some_ratio
from tests.test_desk import Ticker, seen, trusted_world

WORLD = ["world 4", "mode 1 0 3/2", "sensor 0 2", "0 1", "lot 0"]
GOOD = ["liars 0", "start 0"] + WORLD + ["plan 8", "tick -1/2 1 0", "tick 1,2,-3 - 0,1", "silent 0", "tick 0 0,0 -"] + WORLD


def join(rows):
    return "\n".join(rows)


def world_of_rows():
    return World(Plant([[(3, 2)]], whole(1), whole(0)), [Sensor((0,), Channel.clean(2))], [(0,)])


def replaced(place, row, rows=None):
    rows = list(GOOD if rows is None else rows)
    rows[place] = row
    return join(rows)


class TextTest(HeldTest):
    def test_a_story(self):
        world = world_of_rows()
        deeds = (
            ("plan", 8), ("tick", ((-1, 2),), (1,), (0,)), ("tick", whole(1, 2, -3), (), (0, 1)), ("silent", 0),
            ("tick", whole(0), (0, 0), ()), ("world", world),
        )
        story = Story(world, whole(0), (0,), deeds)
        self.assertEqual(story_text(story), join(GOOD))
        told = parse_story(join(GOOD))
        self.assertEqual(told, story)
        self.are_tuples((told.start, told.liars, told.deeds))
        # Lists in a story have the same text.
        lists = Story(world, [(0, 1)], [0], [["plan", 8], ["tick", [(-1, 2)], [1], [0]], ["tick", list(whole(1, 2, -3)), [], [0, 1]], ["silent", 0], ["tick", [(0, 1)], [0, 0], []], ["world", world]])
        self.assertEqual(story_text(lists), join(GOOD))

    def test_stories_without_deeds(self):
        for world, start, liars, rows in (
            (world_of_rows(), whole(0), (), ["liars -", "start 0"] + WORLD),
            (World(Plant([[(1, 2)], [(-1, 3)]], whole(1, 2), ((1, 2), (7, 3))), ()), ((-1, 2), (7, 3)), (),
             ["liars -", "start -1/2 7/3", "world 3", "mode 1 1/2 1/2", "mode 2 7/3 -1/3", "lot -"]),
        ):
            self.assertEqual(story_text(Story(world, start, liars, ())), join(rows))
            self.assertEqual(parse_story(join(rows)), Story(world, start, liars, ()))
        self.assertEqual(story_text(Story(world_of_rows(), whole(0), (0, 2, 3), ())).split("\n")[0], "liars 0,2,3")

    def test_drawn_stories(self):
        source = random.Random(1)
        for _ in range(80):
            world = some_plant_world(source)
            deeds = []
            for _ in range(source.randint(0, 6)):
                deeds.append(source.choice((
                    ("plan", source.randint(0, 9)), ("silent", source.randint(0, 5)), ("world", some_plant_world(source)),
                    ("tick", tuple(some_ratio(source) for _ in range(source.randint(1, 3))), tuple(source.randint(0, 3) for _ in range(source.randint(0, 2))), tuple(source.randint(0, 11) for _ in range(source.randint(0, 3)))),
                )))
            story = Story(world, tuple(some_ratio(source) for _ in range(source.randint(1, 3))), tuple(range(source.randint(0, 2))), tuple(deeds))
            text = story_text(story)
            self.assertEqual(parse_story(text), story)
            self.assertEqual(story_text(parse_story(text)), text)
            self.check_cuts(source, text)

    def check_cuts(self, source, text):
        """Cut a text short, or spoil a sign of it: it is refused, or it is the text of what is read."""
        rows = text.split("\n")
        cut = join(rows[:source.randrange(len(rows))])
        at = source.randrange(len(text))
        for spoiled in (cut, text[:at] + source.choice("019 -/,a\n") + text[at + 1:], text[:at] + text[at + 1:]):
            try:
                story = parse_story(spoiled)
            except HeldError:
                continue
            self.assertEqual(story_text(story), spoiled)

    def test_stories_of_desks(self):
        source = random.Random(2)
        for _ in range(12):
            world = some_kept_world(source)
            liars = world.lots[-1]
            desk, ticker = Desk(world, [times(one, (-1, 1)) for one in world.plant.starts], liars), Ticker(source)
            desk.take_deed(("plan", 8))
            for _ in range(20):
                desk.take_deed(ticker.tick(desk))
            while desk.halves is None:
                desk.take_deed(ticker.tick(desk))
            desk.take_deed(("world", world))
            if world.sensors:
                desk.take_deed(("silent", 0))
            text = story_text(desk.tell_story())
            story = parse_story(text)
            self.assertEqual(story, desk.tell_story())
            again = retell_story(story)
            self.assertTrue(again == desk)
            self.assertEqual(seen(again), seen(desk))


class WrongTextTest(HeldTest):
    def refuses(self, text, row, what):
        self.raises(BadText, {"row": row, "what": what}, parse_story, text)

    def test_first_words(self):
        for at, words in ((0, ("", "liar 0", "start 0", "Liars 0", " liars 0", "plan 8", "world 4")), (1, ("", "liars 0", "world 4", "starts 0", " start 0", "plan 8")),
                          (2, ("", "liars 0", "start 0", "plan 8", "mode 1 0 3/2", "worlds 4")), (7, ("", "liars 0", "start 0", "plans 8", "back", "mode 1 0 3/2", " plan 8", "lot 0"))):
            for row in words:
                self.refuses(replaced(at, row), at, "word")
        self.refuses("", 0, "word")
        self.refuses(join(GOOD) + "\n", len(GOOD), "word")
        self.refuses("\n" + join(GOOD), 0, "word")
        self.refuses(join(GOOD[:2]) + "\n", 2, "word")

    def test_sizes(self):
        for at, rows in (
            (0, ("liars", "liars 0 1", "liars  0", "liars 0 ")), (1, ("start",)), (2, ("world", "world 4 4", "world 4 ", "world  4")), (7, ("plan", "plan 8 8", "plan  8")),
            (8, ("tick", "tick 1", "tick 1 -", "tick 1 - - -", "tick 1  - -", "tick 1 1 0 ")), (10, ("silent", "silent 0 0", "silent 0 ")), (12, ("world", "world 4 4")),
        ):
            for row in rows:
                self.refuses(replaced(at, row), at, "size")

    def test_numbers(self):
        wholes = ("-1", "+1", "01", "1/2", "a", "", "1,2", "-", "--", "-0", "8.0", "2/1")
        lists = ("-1", "a", "", "0,", ",0", "0,,1", "0,-", "01", "1/2", "--", "0,a")
        ratios = ("a", "", "-", "+1", "01", "2/4", "1/0", "-0", "1/-2", "1.5", "1/")
        for word in wholes:
            for at, name in ((2, "world"), (7, "plan"), (10, "silent"), (12, "world")):
                self.refuses(replaced(at, f"{name} {word}"), at, "number")
        for word in lists:
            self.refuses(replaced(0, f"liars {word}"), 0, "number")
            self.refuses(replaced(8, f"tick 1 {word} 0"), 8, "number")
            self.refuses(replaced(8, f"tick 1 0 {word}"), 8, "number")
        for word in ratios:
            self.refuses(replaced(1, f"start {word}"), 1, "number")
            self.refuses(replaced(1, f"start 1 {word}"), 1, "number")
            self.refuses(replaced(8, f"tick {word} - -"), 8, "number")
            self.refuses(replaced(8, f"tick 1,{word} - -"), 8, "number")
        self.refuses(replaced(1, "start 1  2"), 1, "number")
        self.refuses(replaced(1, "start 1 "), 1, "number")
        self.refuses(replaced(1, "start 1,2"), 1, "number")
        # The number of rows is read ahead of the rows.
        self.refuses(join(GOOD[:2] + ["world x"]), 2, "number")

    def test_texts_cut_short(self):
        for many in range(1, 7):
            self.refuses(join(GOOD[:many]), many, "lacking")
        for many in (7, 8, 9, 10, 11, 12):
            self.assertEqual(len(parse_story(join(GOOD[:many])).deeds), many - 7)
        for many in (13, 14, 15, 16):
            self.refuses(join(GOOD[:many]), many, "lacking")
        self.refuses(replaced(12, "world 5"), len(GOOD), "lacking")
        self.refuses(replaced(12, "world 99999999999999999999"), len(GOOD), "lacking")

    def test_a_world_of_no_rows_or_too_few(self):
        self.refuses(replaced(2, "world 0"), 0, "word")
        self.refuses(join(GOOD[:2] + ["world 0"]), 0, "word")
        # The rows in the world tell where its text is wrong, counted from its own first row.
        self.refuses(replaced(2, "world 3"), 3, "lacking")
        self.refuses(replaced(2, "world 2"), 2, "lacking")
        self.refuses(replaced(2, "world 1"), 1, "lacking")
        self.refuses(replaced(2, "world 5"), 4, "word")
        self.refuses(replaced(12, "world 3"), 3, "lacking")
        self.refuses(replaced(12, "world 4", GOOD + ["lot 0"]), 17, "word")

    def test_errors_of_worlds(self):
        for first in (2, 12):
            for place, row, at, what in ((1, "mood 1 0 3/2", 0, "word"), (1, "mode 1 0", 0, "size"), (1, "mode 1 0 x", 0, "number"), (2, "sensor 0", 1, "size"), (3, "0 a", 2, "number"), (4, "lot x", 3, "number")):
                self.refuses(replaced(first + place, row), at, what)
            self.raises(BadPlant, {"what": "push", "mode": 0}, parse_story, replaced(first + 1, "mode 0 0 3/2"))
            self.raises(BadChannel, {"what": "row", "phase": 0, "word": 1}, parse_story, replaced(first + 3, "0 2"))
            self.raises(BadWorld, {"what": "seen", "sensor": 0}, parse_story, replaced(first + 2, "sensor 1 2"))
            self.raises(BadLots, {"index": 0, "what": "sensor"}, parse_story, replaced(first + 4, "lot 1"))
            self.refuses(join(GOOD[:first] + ["world 5"] + WORLD[1:] + ["lot -"] + GOOD[first + 5:]), 0, "order")

    def test_heads_are_read_in_their_order(self):
        # A wrong world stands ahead of a wrong row behind it, and behind a wrong row ahead of it.
        rows = list(GOOD)
        rows[3], rows[8] = "mood 1 0 3/2", "tick"
        self.refuses(join(rows), 0, "word")
        rows[1] = "start"
        self.refuses(join(rows), 1, "size")
        rows[0] = "liars x"
        self.refuses(join(rows), 0, "number")

    def test_what_is_read_but_has_another_text(self):
        # Every word here is as it must be; only a lot that lies within another one makes a text another one.
        self.assertEqual(parse_story(replaced(0, "liars 3,1,1")).liars, (3, 1, 1))
        self.assertEqual(parse_story(replaced(1, "start 1/2 -7 5 0")).start, ((1, 2), (-7, 1), (5, 1), (0, 1)))
        self.assertEqual(parse_story(replaced(7, "plan 0")).deeds[0], ("plan", 0))
        self.assertEqual(parse_story(replaced(8, "tick 5 9,9 77")).deeds[1], ("tick", whole(5), (9, 9), (77,)))

    def test_long_texts_in_time(self):
        begun = time.time()
        deeds = [("tick", (make_ratio(at, at + 1),), (at % 2,), (at % 3, 1)) for at in range(20000)]
        story = Story(trusted_world(4), whole(0), (1,), tuple(deeds + [("world", trusted_world(4))] * 300))
        text = story_text(story)
        self.assertTrue(parse_story(text) == story)
        self.assertEqual(text.count("\n"), 2 + 1 + len(world_text(trusted_world(4)).split("\n")) * 301 + 300 + 20000 - 1)
        self.assertLess(time.time() - begun, 4)
