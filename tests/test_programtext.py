import random
import time

from farheld.errors import BadText
from farheld.fitting import still_program
from farheld.programs import Coder, Controller, Program
from farheld.programtext import program_of_text, text_of_program
from farheld.worlds import World
from tests.helpers import HeldTest, clean_world, plain_plant
from tests.programs import some_plant_world, some_program

TEXT = """program 2 1
outcomes 2 3
registers 1/3 -7/2
state 1
move 1 c0=1/2,1*-3 u1=0
move 0
move 1 c0=0 c1=-1/2,0*2,1*-3/7 u0=5 u1=1/2,1*-3
state
move 1 u1=1/2
coder 2 3 2
modes 0
rule yes
look 0 1/2,1*-3 0
look 0
replies 0 1 0:2 1:0 0 1:1 1 1 1
rule no
replies 1
coder 3 1 0
modes
rule no
replies 2
rule no
replies 0:0"""

HALF_FORM = ((1, 2), ((1, (-3, 1)),))
ZERO_FORM = ((0, 1), ())


def told_program():
    rows = [
        ((1,), [
            (1, [(0, HALF_FORM)], [(1, ZERO_FORM)]), (0, [], []),
            (1, [(0, ZERO_FORM), (1, ((-1, 2), ((0, (2, 1)), (1, (-3, 7)))))], [(0, ((5, 1), ())), (1, HALF_FORM)]),
        ]),
        ((), [(1, [], [(1, ((1, 2), ()))])]),
    ]
    replies = [(0, None), (1, None), (0, 2), (1, 0), (0, None), (1, 1), (1, None), (1, None), (1, None)]
    first = Coder(2, (0,), [(True, [(0, [HALF_FORM, ZERO_FORM]), (0, [])], replies), (False, [], [(1, None)])], 3, 2)
    second = Coder(3, (), [(False, [], [(2, None)]), (False, [], [(0, 0)])])
    return Program(Controller((2, 3), 2, ((1, 3), (-7, 2)), rows, 1), [first, second])


class TextTest(HeldTest):
    def bad(self, row, what, rows):
        text = rows if isinstance(rows, str) else "\n".join(rows)
        self.raises(BadText, {"row": row, "what": what}, program_of_text, text)

    def changed(self, row, text):
        rows = TEXT.split("\n")
        rows[row] = text
        return rows

    def test_text_and_back(self):
        self.assertEqual(text_of_program(told_program()), TEXT)
        self.assertEqual(program_of_text(TEXT), told_program())

    def test_small_programs(self):
        still = still_program(World(plain_plant((2, 1)), ()))
        text = "program 1 0\noutcomes\nregisters\nstate\nmove 0"
        self.assertEqual(text_of_program(still), text)
        self.assertEqual(program_of_text(text), still)
        text = "program 1 0\noutcomes 2\nregisters\nstate\nmove 0\ncoder 2 1 0\nmodes 0\nrule no\nreplies 0"
        self.assertEqual(text_of_program(still_program(clean_world((2, 1), 2, 1))), text)

    def test_drawn_programs(self):
        source = random.Random(715)
        for _ in range(150):
            program = some_program(source, some_plant_world(source))
            text = text_of_program(program)
            self.assertEqual(program_of_text(text), program)
            self.assertEqual(text_of_program(program_of_text(text)), text)

    def test_a_text_cut_short_at_each_row(self):
        rows = TEXT.split("\n")
        for many in range(1, len(rows)):
            begun = [row.split(" ")[0] for row in rows[:many]]
            complete = begun[-1] in ("registers", "state", "move", "modes", "replies")
            if complete:
                self.bad(0, "program", rows[:many])
            else:
                self.bad(many, "lacking", rows[:many])
        self.bad(0, "row", "")
        self.bad(len(rows), "row", TEXT + "\n")

    def test_a_row_doubled(self):
        rows = TEXT.split("\n")
        for at, row in enumerate(rows):
            word = row.split(" ")[0]
            doubled = rows[:at + 1] + rows[at:]
            if word in ("program", "outcomes", "registers", "coder", "modes", "rule", "replies"):
                self.bad(at + 1, "row", doubled)
            elif row == "look 0":
                # A third look without thresholds asks for no more replies.
                self.assertEqual(text_of_program(program_of_text("\n".join(doubled))), "\n".join(doubled))
            else:
                self.bad(0, "program", doubled)

    def test_rows_that_may_not_stand_there(self):
        rows = TEXT.split("\n")
        for at in range(len(rows)):
            for word in ("", "world", "Program 1 0", " move 0", "mode 1 0 2", "look", "move"):
                self.bad(at, "row", self.changed(at, word))
        heads = ("program 2 1", "outcomes 2 3", "registers", "state", "move 0", "coder 2 3 2", "modes", "rule no", "look 0", "replies 0")
        lets = {
            "": ("program",), "program": ("outcomes",), "outcomes": ("registers",), "registers": ("state", "coder"),
            "state": ("state", "move", "coder"), "move": ("state", "move", "coder"), "coder": ("modes",),
            "modes": ("coder", "rule"), "rule": ("look", "replies"), "look": ("look", "replies"), "replies": ("coder", "rule"),
        }
        for at, row in enumerate(rows):
            ahead = rows[at - 1].split(" ")[0] if at else ""
            for head in heads:
                if head.split(" ")[0] not in lets[ahead]:
                    self.bad(at, "row", rows[:at] + [head])

    def test_words_of_wrong_kinds(self):
        wrong = {
            0: ("program", "program 2", "program 2 1 0", "program 2 1/2", "program 02 1", "program two 1", "program 2  1", "program 2 1 "),
            1: ("outcomes 2 3/2", "outcomes 2,3", "outcomes 2 +3", "outcomes ", "outcomes 2 ", "outcomes 2  3"),
            2: ("registers 1/3 -7/2 ", "registers 2/6", "registers 1/0", "registers -0", "registers 1/-3", "registers x", "registers 1,0*1"),
            3: ("state 1/2", "state x", "state 1 ", "state "),
            4: (
                "move", "move x", "move 1/2", "move 1 ", "move c0=1", "move 1 c0", "move 1 c=1", "move 1 0=1", "move 1 c0=", "move 1 c0=x",
                "move 1 c0=1,", "move 1 c0=1,1", "move 1 c0=1,1*", "move 1 c0=1,*2", "move 1 c0=1,1/2*2", "move 1 c1/2=1", "move 1 u0=1 c0=1",
                "move 1 c0=1 u0=1 c1=1", "move 1 c0=1  u0=1", "move 1 v0=1", "move 1 C0=1", "move 1 c0=1,1*2*3", "move 1 c0=1=2", "move 1 c0==1",
            ),
            9: ("coder 2 3", "coder 2 3 2 1", "coder 2 3 1/2", "coder", "coder 2 3 x", "coder 2 3 2 "),
            10: ("modes 1/2", "modes x", "modes ", "modes 0 "),
            11: ("rule", "rule maybe", "rule yes no", "rule Yes", "rule yes ", "rule 1"),
            12: ("look", "look x", "look 1/2", "look 0 x", "look 0 1 ", "look 0 1,2", "look 0 1/2,1*-3,", "look 0 c0=1"),
            14: ("replies x", "replies 0:", "replies :0", "replies 0:1:2", "replies 1/2", "replies 0:1/2", "replies ", "replies 0 ", "replies 0  1"),
        }
        for row, texts in wrong.items():
            for text in texts:
                self.bad(row, "row", self.changed(row, text))
                # The rows ahead are looked at first, those behind are not.
                self.bad(row, "row", self.changed(row, text)[:row + 1] + ["never"])
        self.bad(1, "row", ["program 2 1", "outcomes x", "registers y"])

    def test_numbers_that_a_constructor_refuses(self):
        told = {
            0: ("program -2 1", "program 4 1", "program 2 2", "program 2 -1", "program 1 1"),
            1: ("outcomes -2 3", "outcomes 2", "outcomes", "outcomes 2 3 2", "outcomes 2 13", "outcomes 0 3", "outcomes 3 2"),
            2: ("registers", "registers 1/3", "registers" + " 0" * 25),
            3: ("state", "state -1", "state 2", "state 0 1", "state 1 1"),
            4: ("move 2", "move -1", "move 1 c2=1", "move 1 c-1=1", "move 1 c1=1 c0=1", "move 1 c0=1 c0=1", "move 1 u2=1", "move 1 c0=1,2*1", "move 1 c0=1,-1*1", "move 1 c0=1,1*0", "move 1 c0=1,1*1,0*1"),
            9: ("coder -2 3 2", "coder 13 3 2", "coder 2 1001 2", "coder 2 3 3", "coder 2 3 -1", "coder 1 3 2", "coder 2 2 1"),
            10: ("modes 3", "modes -1", "modes 2", "modes 0 0", "modes 1 0", "modes 1", "modes"),
            12: ("look 1 0 0", "look -1 0 0", "look 0", "look 0 1 2 3", "look 0 1,24*1 0", "look 0 1,2*1 0"),
            14: ("replies", "replies 0", "replies 0 0 0 0 0 0 0 0 2", "replies 0 0 0 0 0 0 0 0 -1", "replies 0 0 0 0 0 0 0 0 0:3", "replies 0 0 0 0 0 0 0 0 0:-1"),
        }
        for row, texts in told.items():
            for text in texts:
                self.bad(0, "program", self.changed(row, text))
        rows = TEXT.split("\n")
        for rows_told in (rows[:3], rows[:3] + rows[9:], rows[:9], rows[:17], rows + rows[17:], rows[:13] + [rows[13]] * 3 + rows[14:]):
            self.bad(0, "program", rows_told)

    def test_number_words_of_300_signs(self):
        digits = "7" * 300
        text = self.changed(2, f"registers {digits} -1/{digits[:297]}")
        self.assertEqual(program_of_text("\n".join(text)).controller.registers, ((int(digits), 1), (-1, int(digits[:297]))))
        self.bad(2, "row", self.changed(2, f"registers 0 {digits}7"))
        self.bad(2, "row", self.changed(2, f"registers 0 -1/{digits[:298]}"))
        self.bad(4, "row", self.changed(4, f"move 1 c0=1,1*{digits}7"))
        self.bad(12, "row", self.changed(12, f"look 0 {digits}7 0"))
        form = f"1/{digits[:298]},0*{digits},1*-1/{digits[:297]}"
        long = self.changed(4, f"move 1 c0={form} u1={form}")
        self.assertEqual(text_of_program(program_of_text("\n".join(long))), "\n".join(long))
        self.bad(0, "program", self.changed(0, f"program {digits} 0"))
        self.bad(0, "row", self.changed(0, f"program {digits}7 0"))

    def test_the_largest_are_quick(self):
        move = (7, [(register, HALF_FORM) for register in (0, 5, 23)], [(0, HALF_FORM)])
        replies = [(place % 12, (None, place % 1000)[place % 2]) for place in range(10000)]
        coder = Coder(12, (0,), [(True, [(0, [HALF_FORM] * 9)], replies)] * 20 + [(False, (), [(0, None)])] * 1980, 1000, 999)
        controller = Controller((12, 12), 1, [(1, 3)] * 24, [((0,), [move] * 12)] * 2000, 1999)
        program = Program(controller, [coder, coder])
        begun = time.process_time()
        text = text_of_program(program)
        self.assertEqual(program_of_text(text), program)
        self.assertLess(time.process_time() - begun, 5)
