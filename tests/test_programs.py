import itertools
import random
import time
from fractions import Fraction

from farheld.errors import BadOrder, BadProgram, NoEntry
from farheld.fitting import still_program
from farheld.programs import Coder, Controller, Program
from farheld.ratios import make_ratio
from farheld.running import play_run, walk
from tests.helpers import NO_RATIOS, NO_SEQUENCES, NO_WHOLES, HeldTest, as_lists, clean_world, whole
from tests.programs import some_coder, some_controller, some_plant_world, some_program, some_ratio, some_run

FORM = ((1, 2), ((1, (-3, 1)),))
ZERO_FORM = ((0, 1), ())
MOVES = ((1, ((0, FORM),), ((1, ZERO_FORM),)), (0, (), ()), (1, ((0, ZERO_FORM), (1, FORM)), ((0, FORM), (1, FORM))))
ROWS = (((1,), MOVES), ((), ((1, (), ((1, FORM),)),)))
REGISTERS = ((1, 3), (-7, 2))
LOOKS = ((0, (FORM, ZERO_FORM)), (2, ()))
RULES = ((True, LOOKS, tuple([(place % 2, place % 3) for place in range(9)])), (False, (), ((1, None),)))


def controller(**named):
    told = {"outcomes": (2, 3), "modes": 2, "registers": REGISTERS, "rows": ROWS, "first": 1}
    told.update(named)
    return Controller(**told)


def coder(**named):
    told = {"words": 2, "modes": (0, 2), "rules": RULES, "memories": 3, "first": 2}
    told.update(named)
    return Coder(**told)


def plain_coder(words=2, modes=(), rules=2):
    return Coder(words, modes, [(False, (), ((0, None),))] * rules)


class ProgramTest(HeldTest):
    def refuses(self, who, what, call, *arguments, **named):
        self.raises(BadProgram, {"who": who, "what": what}, call, *arguments, **named)


class ControllerTest(ProgramTest):
    def test_attributes(self):
        for told in (controller(), controller(outcomes=[2, 3], registers=list(REGISTERS), rows=as_lists(ROWS))):
            self.assertEqual((told.outcomes, told.modes, told.registers), ((2, 3), 2, REGISTERS))
            self.assertEqual((told.rows, told.first, len(told)), (ROWS, 1, 2))
            self.are_tuples((told.outcomes, told.registers, told.rows))
        self.assertEqual(Controller((), 1, (), [((), [(0, (), ())])]).first, 0)

    def test_lists_stay_and_are_not_kept(self):
        rows, outcomes, registers = as_lists(ROWS), [2, 3], list(REGISTERS)
        told = controller(rows=rows, outcomes=outcomes, registers=registers)
        self.assertEqual((rows, outcomes, registers), (as_lists(ROWS), [2, 3], list(REGISTERS)))
        rows[0][1][0][1].clear()
        rows.pop()
        outcomes.clear()
        registers[0] = (5, 1)
        self.assertEqual(told, controller())

    def test_equality(self):
        same = controller(rows=as_lists(ROWS))
        self.assertTrue(controller() == same)
        self.assertFalse(controller() != same)
        others = [controller(outcomes=(3, 3)), controller(modes=3), controller(registers=((1, 3), (7, 2))), controller(first=0)]
        others.append(controller(rows=(ROWS[0], ((), ((0, (), ((1, FORM),)),)))))
        for other in others + [None, 3, coder(), ROWS]:
            self.assertTrue(controller() != other)
            self.assertFalse(controller() == other)

    def test_wrong_heads_in_their_order(self):
        for thing in NO_SEQUENCES + ([1] * 5, [0], [13], [2, True], [None], [(1, 1)]):
            self.refuses("controller", "outcomes", Controller, thing, 0, 0, 0, -1)
        for thing in NO_WHOLES + (0, 4):
            self.refuses("controller", "modes", Controller, (2,), thing, 0, 0, -1)
        for thing in NO_SEQUENCES + ([(0, 1)] * 25,) + tuple([one] for one in NO_RATIOS):
            self.refuses("controller", "registers", Controller, (2,), 1, thing, 0, -1)
        still = ((), ((0, (), ()),))
        for thing in NO_SEQUENCES + ((), [still] * 2001):
            self.refuses("controller", "rows", Controller, (2,), 1, (), thing, -1)
        for thing in NO_WHOLES + (2, -1):
            self.refuses("controller", "first", Controller, (2,), 1, (), [None, None], thing)
        self.assertEqual(len(Controller((12,) * 4, 3, [(0, 1)] * 24, [still] * 2000, 1999)), 2000)

    def test_wrong_rows(self):
        for thing in NO_SEQUENCES + ((), ((),), ((), (), ())):
            self.refuses("controller", "row", controller, rows=(thing, None))
        for thing in NO_SEQUENCES + ((2,), (1, 0), (1, 1), (-1,), (True,), (0, None), (0, 1, 2)):
            self.refuses("controller", "heeds", controller, rows=((thing, None), None))
        for heeds, moves in (((1,), MOVES[:2]), ((1,), MOVES + MOVES[:1]), ((), ()), ((0, 1), MOVES), ((0,), None), ((), {0: 1})):
            self.refuses("controller", "moves", controller, rows=((heeds, moves), None))
        # All of a row comes ahead of the next row, all of a move ahead of the next move.
        self.refuses("controller", "steps", controller, rows=(((), ((0, (), 5),)), None))
        self.refuses("controller", "changes", controller, rows=(((0,), ((0, 5, 5), None)), None))
        self.refuses("controller", "row", controller, rows=(ROWS[0], None), first=0)

    def test_wrong_moves(self):
        def with_move(move):
            return controller(rows=(((), (move,)), ROWS[1]))
        for thing in NO_SEQUENCES + ((), (0, ()), (0, (), (), ())) + tuple((one, (), ()) for one in NO_WHOLES + (2, -1)):
            self.refuses("controller", "move", with_move, thing)
        wrong = list(NO_SEQUENCES) + [(thing,) for thing in NO_SEQUENCES + ((), (0,), (0, FORM, 1))]
        wrong += [((thing, FORM),) for thing in NO_WHOLES + (2, -1)] + [((1, FORM), (0, FORM)), ((1, FORM), (1, FORM))]
        wrong += [((0, thing),) for thing in NO_SEQUENCES + (((1, 2), ((2, (1, 1)),)), ((2, 4), ()), ((1, 2), ((0, (0, 1)),)))]
        for thing in wrong:
            self.refuses("controller", "changes", with_move, (0, thing, 5))
            self.refuses("controller", "steps", with_move, (0, (), thing))
        self.refuses("controller", "steps", with_move, (0, ((0, FORM), (1, FORM)), ((2, FORM),)))
        self.refuses("controller", "changes", controller, registers=((1, 3),), rows=(ROWS[0], ROWS[1]))

    def test_find_move(self):
        told = controller()
        for first in (0, 1):
            self.assertEqual([told.find_move(0, [first, second]) for second in range(3)], list(MOVES))
            self.assertEqual(told.find_move(1, (first, 2)), ROWS[1][1][0])
        source = random.Random(74)
        for _ in range(30):
            outcomes = [source.randint(1, 3) for _ in range(source.randint(0, 4))]
            told = some_controller(source, outcomes, 2)
            for state, (heeds, moves) in enumerate(told.rows):
                heard = list(itertools.product(*[range(outcomes[sensor]) for sensor in heeds]))
                for row in itertools.product(*[range(many) for many in outcomes]):
                    due = moves[heard.index(tuple(row[sensor] for sensor in heeds))]
                    self.assertEqual(told.find_move(state, row), due)


class CoderTest(ProgramTest):
    def test_attributes(self):
        for told in (coder(), coder(modes=[0, 2], rules=as_lists(RULES))):
            self.assertEqual((told.words, told.modes, told.rules), (2, (0, 2), RULES))
            self.assertEqual((told.memories, told.first), (3, 2))
            self.are_tuples((told.modes, told.rules))
        self.assertEqual((plain_coder().memories, plain_coder().first), (1, 0))

    def test_lists_stay_and_are_not_kept(self):
        rules, modes = as_lists(RULES), [0, 2]
        told = coder(rules=rules, modes=modes)
        self.assertEqual((rules, modes), (as_lists(RULES), [0, 2]))
        rules[0][1][0][1].clear()
        rules[0][2][0][0] = 1
        modes.clear()
        self.assertEqual(told, coder())

    def test_equality(self):
        same = coder(rules=as_lists(RULES))
        self.assertTrue(coder() == same)
        self.assertFalse(coder() != same)
        others = [coder(words=3), coder(modes=(0, 1, 2)), coder(memories=4, rules=RULES[1:]), coder(first=0)]
        for other in others + [coder(rules=RULES[::-1]), None, 3, controller(), RULES]:
            self.assertTrue(coder() != other)
            self.assertFalse(coder() == other)

    def test_wrong_heads_in_their_order(self):
        for thing in NO_WHOLES + (0, 13):
            self.refuses("coder", "words", Coder, thing, 0, 0, 0, 0)
        for thing in NO_SEQUENCES + ([3], [1, 0], [1, 1], [-1], [True], [0, 1, 2, 2]):
            self.refuses("coder", "modes", Coder, 1, thing, 0, 0, 0)
        for thing in NO_WHOLES + (0, 1001):
            self.refuses("coder", "memories", Coder, 1, (), 0, thing, -1)
        for thing in NO_WHOLES + (3, -1):
            self.refuses("coder", "first", Coder, 1, (), 0, 3, thing)
        for thing in NO_SEQUENCES + ((), [RULES[1]] * 2001):
            self.refuses("coder", "rules", Coder, 1, (), thing, 3, 2)
        self.assertEqual(len(Coder(12, (0, 1, 2), [RULES[1]] * 2000, 1000, 999).rules), 2000)

    def test_wrong_rules(self):
        for thing in NO_SEQUENCES + ((), (True, ()), (True, (), (), ())) + tuple((one, (), ()) for one in (None, 0, 1, "yes")):
            self.refuses("coder", "rule", coder, rules=(thing, None))
        wrong = list(NO_SEQUENCES) + [(LOOKS[0],) * 4] + [(thing,) for thing in NO_SEQUENCES + ((), (0,), (0, (), ()))]
        wrong += [((thing, ()),) for thing in NO_WHOLES + (1, 3, -1)]
        wrong += [((0, thing),) for thing in NO_SEQUENCES + ([ZERO_FORM] * 101, (ZERO_FORM, 3), (((0, 1), ((24, (1, 1)),)),))]
        for thing in wrong:
            self.refuses("coder", "looks", coder, rules=((False, thing, 5), None))
        self.refuses("coder", "rule", coder, rules=(RULES[0], None))

    def test_wrong_replies(self):
        for thing in NO_SEQUENCES + (RULES[0][2][:8], RULES[0][2] + ((0, 0),), ()):
            self.refuses("coder", "replies", coder, rules=((True, LOOKS, thing), None))
        self.refuses("coder", "replies", coder, rules=((False, LOOKS, RULES[0][2]), None))
        wrong = list(NO_SEQUENCES) + [(), (0,), (0, 0, 0)] + [(thing, 0) for thing in NO_WHOLES + (2, -1)]
        wrong += [(0, thing) for thing in (True, False, "1", 1.0, (1, 1), [1], 3, -1)]
        for thing in wrong:
            self.refuses("coder", "replies", coder, rules=((False, (), (thing,)), None))

    def test_at_most_10000_replies(self):
        many = [make_ratio(place, 7) for place in range(100)]
        looks = ((0, [(one, ()) for one in many[:99]]), (2, [(one, ()) for one in many[:99]]))
        self.assertEqual(len(coder(rules=[(False, looks, [(0, None)] * 10000)]).rules[0][2]), 10000)
        looks = ((0, [(one, ()) for one in many]), looks[1])
        self.refuses("coder", "replies", coder, rules=[(False, looks, [(0, None)] * 10100)])
        # 137 memories and 73 places would need one more.
        self.refuses("coder", "replies", coder, memories=137, rules=[(True, ((0, [(one, ()) for one in many[:72]]),), [(0, 0)] * 10001)])
        told = coder(memories=1000, rules=[(True, ((0, [(one, ()) for one in many[:9]]),), [(1, 999)] * 10000)])
        self.assertEqual(told.find_reply(0, 999, (9,)), (1, 999))
        self.refuses("coder", "replies", coder, memories=1000, rules=[(True, ((0, [(one, ()) for one in many[:10]]),), [(1, 9)] * 11000)])

    def test_cuts(self):
        told = coder(rules=[(False, [(2, [FORM, ZERO_FORM, ((-5, 1), ()), ZERO_FORM]), [0, []]], [(0, None)] * 5)])
        self.assertEqual(told.find_cuts(0, [(9, 1), (1, 1)]), ((2, ((-5, 1), (-5, 2), (0, 1), (0, 1))), (0, ())))
        self.assertEqual(told.find_cuts(0, ((9, 1), (-1, 1)))[0][1], ((-5, 1), (0, 1), (0, 1), (7, 2)))
        self.assertEqual(coder().find_cuts(1, ()), ())
        near = (10 ** 299 + 1, 10 ** 299)
        told = coder(rules=[(False, [(0, [(near, ()), ((1, 1), ()), (near, ())])], [(0, None)] * 4)])
        self.assertEqual(told.find_cuts(0, ()), ((0, ((1, 1), near, near)),))

    def test_places(self):
        thresholds = [((2, 1), ()), ((0, 1), ((0, (1, 1)),)), ((2, 1), ()), ((-1, 2), ())]
        told = coder(rules=[(False, [(2, thresholds), (0, ()), (2, thresholds[:1])], [(0, None)] * 10)])
        for place, due in (((-1, 1), 0), ((-1, 2), 1), ((0, 1), 1), ((1, 2), 1), ((1, 1), 2), ((3, 2), 2), ((2, 1), 4), ((9, 1), 4)):
            places = told.find_places(0, whole(1), ((7, 1), (8, 1), place))
            self.assertEqual(places, (due, 0, 1 if due == 4 else 0))
        self.assertEqual(told.find_places(0, [(2, 1)], [(7, 1), (8, 1), (2, 1)]), (4, 0, 1))

    def test_a_position_exactly_at_a_threshold(self):
        big = 10 ** 280
        form = ((1, big), ((0, (-1, 3)),))
        told = coder(rules=[(False, [(0, [form])], [(0, None), (1, 1)])])
        register = (1, 7 * big)
        at = Fraction(1, big) - Fraction(1, 21 * big)
        for less, due in ((Fraction(1, big ** 2), (0, 2)), (0, (1, 1)), (-Fraction(1, big ** 2), (1, 1))):
            place = at - less
            self.assertEqual(told.say(0, [register], 2, [(place.numerator, place.denominator)]), due)

    def test_replies_and_words(self):
        told = coder()
        self.assertEqual(told.find_reply(0, 2, (1, 0)), (1, 1))
        self.assertEqual([told.find_reply(0, memory, [place, 0]) for memory in range(3) for place in range(3)], list(RULES[0][2]))
        self.assertEqual([told.find_reply(1, memory, ()) for memory in range(3)], [(1, 0), (1, 1), (1, 2)])
        # Thresholds 1/2 and 0 at register 1 being 0: places 0, 1, 2.
        positions = [[place, (0, 1), (0, 1)] for place in ((-1, 1), (1, 4), (1, 2))]
        self.assertEqual([told.say(0, whole(0, 0), 1, row) for row in positions], [(1, 0), (0, 1), (1, 2)])

    def test_drawn_coders(self):
        source = random.Random(77)
        for _ in range(60):
            told = some_coder(source, 4, (0, 1), 2, 2)
            for _ in range(10):
                registers, positions = [[some_ratio(source, 9, 4) for _ in range(2)] for _ in range(2)]
                state, memory = source.randrange(2), source.randrange(told.memories)
                cuts, places = told.find_cuts(state, registers), told.find_places(state, registers, positions)
                self.are_tuples((cuts, places))
                recall, looks, replies = told.rules[state]
                at = memory if recall else 0
                for (mode, values), place, (_, thresholds) in zip(cuts, places, looks):
                    fractions = [Fraction(*value) for value in values]
                    self.assertEqual(fractions, sorted(fractions))
                    self.assertEqual(len(fractions), len(thresholds))
                    self.assertEqual(place, sum(value <= Fraction(*positions[mode]) for value in fractions))
                    at = at * (len(thresholds) + 1) + place
                word, behind = replies[at]
                due = (word, memory if behind is None else behind)
                self.assertEqual(told.find_reply(state, memory, list(places)), due)
                self.assertEqual(told.say(state, registers, memory, positions), due)


class WholeProgramTest(ProgramTest):
    def setUp(self):
        self.coders = (coder(modes=(0,), rules=((True, LOOKS[:1], RULES[0][2]), RULES[1])), plain_coder(3, (1,)))
        self.program = Program(controller(), self.coders)

    def test_attributes_and_equality(self):
        coders = list(self.coders)
        program = Program(controller(), coders)
        coders.clear()
        self.assertEqual((program.controller, program.coders, len(program)), (controller(), self.coders, 2))
        self.assertTrue(program == self.program)
        self.assertFalse(program != self.program)
        others = [Program(controller(first=0), self.coders), Program(controller(), (self.coders[0], plain_coder(3)))]
        for other in others + [None, controller(), (controller(), self.coders)]:
            self.assertTrue(program != other)
            self.assertFalse(program == other)

    def test_wrong_coders(self):
        for thing in NO_SEQUENCES + ((), self.coders[:1], self.coders * 2, (self.coders[0], None), ["a", "b"]):
            self.refuses("program", "coders", Program, controller(), thing)
        long = plain_coder(2, (2,), 3)
        self.refuses(0, "rules", Program, controller(), (long, long))
        self.refuses(1, "rules", Program, controller(), [self.coders[0], long])
        high = coder(rules=(RULES[0], RULES[1]))
        self.refuses(0, "modes", Program, controller(), (high, long))
        self.refuses(1, "modes", Program, controller(), (plain_coder(2, (1,)), plain_coder(2, (0, 2))))
        deep = coder(modes=(0,), rules=((False, ((0, (((0, 1), ((2, (1, 1)),)),)),), ((0, None),) * 2), RULES[1]))
        self.refuses(0, "thresholds", Program, controller(), (deep, long))
        self.refuses(1, "thresholds", Program, controller(), (self.coders[0], deep))
        deep_and_high = coder(modes=(0, 2), rules=deep.rules)
        self.refuses(0, "modes", Program, controller(), (deep_and_high, long))

    def test_with_move(self):
        move = (0, [[1, FORM]], [])
        new = self.program.with_move(0, 1, move)
        rows = (((1,), (MOVES[0], (0, ((1, FORM),), ()), MOVES[2])), ROWS[1])
        self.assertEqual(new, Program(controller(rows=rows), self.coders))
        self.are_tuples(new.controller.rows)
        self.assertEqual(self.program, Program(controller(), self.coders))
        for thing in NO_WHOLES + (2, -1):
            self.raises(NoEntry, {"what": "state"}, self.program.with_move, thing, 9, None)
        for thing in NO_WHOLES + (3, -1):
            self.raises(NoEntry, {"what": "place"}, self.program.with_move, 0, thing, None)
        self.raises(NoEntry, {"what": "place"}, self.program.with_move, 1, 1, None)
        for thing, what in ((None, "move"), ((2, (), ()), "move"), ((0, ((2, FORM),), 5), "changes"), ((0, (), ((2, FORM),)), "steps")):
            self.refuses("controller", what, self.program.with_move, 0, 2, thing)

    def test_with_reply(self):
        new = self.program.with_reply(0, 0, 4, [1, None])
        replies = RULES[0][2][:4] + ((1, None),) + RULES[0][2][5:]
        due = coder(modes=(0,), rules=((True, LOOKS[:1], replies), RULES[1]))
        self.assertEqual(new, Program(controller(), (due, self.coders[1])))
        self.are_tuples(new.coders[0].rules)
        for thing in NO_WHOLES + (2, -1):
            self.raises(NoEntry, {"what": "sensor"}, self.program.with_reply, thing, 9, 9, None)
            self.raises(NoEntry, {"what": "state"}, self.program.with_reply, 0, thing, 9, None)
        for thing in NO_WHOLES + (9, -1):
            self.raises(NoEntry, {"what": "place"}, self.program.with_reply, 0, 0, thing, None)
        self.raises(NoEntry, {"what": "place"}, self.program.with_reply, 1, 1, 1, None)
        for thing in (None, (2, 0), (0, 3), (True, 0), (0, True), (0,)):
            self.refuses("coder", "replies", self.program.with_reply, 0, 0, 8, thing)
        self.refuses("coder", "replies", self.program.with_reply, 1, 0, 0, (0, 1))

    def test_rename_states(self):
        new = self.program.rename_states([1, 0])
        moves = tuple([(1 - state, changes, steps) for state, changes, steps in MOVES])
        rows = (((), ((0, (), ((1, FORM),)),)), ((1,), moves))
        coders = [coder(modes=(0,), rules=self.coders[0].rules[::-1]), self.coders[1]]
        self.assertEqual(new, Program(controller(rows=rows, first=0), coders))
        self.assertEqual(new.rename_states((1, 0)), self.program)
        for thing in NO_SEQUENCES + ([0], [0, 1, 2], [1, 1], [0, 2], [False, True], [0, None]):
            self.raises(BadOrder, {"what": "states"}, self.program.rename_states, thing)

    def test_rename_memories(self):
        names = [2, 0, 1]
        new = self.program.rename_memories(0, names)
        self.assertEqual(names, [2, 0, 1])
        told = new.coders[0]
        self.assertEqual((told.first, told.memories), (1, 3))
        for memory in range(3):
            for place in range(3):
                word, behind = self.coders[0].find_reply(0, memory, (place,))
                self.assertEqual(told.find_reply(0, names[memory], (place,)), (word, names[behind]))
        self.assertEqual(told.rules[1], RULES[1])
        self.assertEqual((new.controller, new.coders[1]), (controller(), self.coders[1]))
        self.assertEqual(new.rename_memories(0, (1, 2, 0)), self.program)
        for thing in NO_WHOLES + (2, -1):
            self.raises(NoEntry, {"what": "sensor"}, self.program.rename_memories, thing, None)
        for thing in NO_SEQUENCES + ([0, 1], [0, 1, 1], [0, 1, 3], [False, 1, 2]):
            self.raises(BadOrder, {"what": "memories"}, self.program.rename_memories, 0, thing)

    def test_renamed_programs_do_the_same(self):
        source = random.Random(712)
        for _ in range(40):
            world = some_plant_world(source)
            program = some_program(source, world)
            states = source.sample(range(len(program)), len(program))
            new = program.rename_states(states)
            orders = []
            for sensor, told in enumerate(program.coders):
                orders.append(source.sample(range(told.memories), told.memories))
                new = new.rename_memories(sensor, orders[-1])
            rebuilt = Controller(new.controller.outcomes, new.controller.modes, new.controller.registers, new.controller.rows, new.controller.first)
            coders = [Coder(one.words, one.modes, one.rules, one.memories, one.first) for one in new.coders]
            self.assertEqual(Program(rebuilt, coders), new)
            run = play_run(world, program, *some_run(source, world, program, 6))
            for one, other in zip(walk(world, program, run), walk(world, new, run)):
                self.assertEqual((one.positions, one.registers, states[one.state]), (other.positions, other.registers, other.state))
                self.assertEqual(tuple(order[memory] for order, memory in zip(orders, one.memories)), other.memories)


class LargeTest(ProgramTest):
    def test_the_largest_programs_are_quick(self):
        begun = time.process_time()
        moves = [(7, [(23, FORM)], [(0, FORM), (2, FORM)])] * 25
        told = Controller((5, 5, 12), 3, [(1, 2)] * 24, [((0, 1), moves)] * 2000, 1999)
        replies = [(place % 12, place % 1000) for place in range(10000)]
        rules = [(True, ((0, [((place, 7), ()) for place in range(1, 7)] + [((0, 1), ()), ((8, 7), ()), ((2, 1), ())]),), replies)]
        coders = [Coder(12, (0,), rules + [RULES[1]] * 1999, 1000)] * 3
        program = Program(told, coders)
        new = program.with_move(1999, 24, moves[0]).with_reply(2, 0, 9999, (11, 999))
        new = new.rename_states(range_back(2000)).rename_memories(0, range_back(1000))
        self.assertEqual((len(new), new.controller.first), (2000, 0))
        self.assertLess(time.process_time() - begun, 5)

    def test_still_programs_of_clean_worlds(self):
        program = still_program(clean_world((2, 1), 3, 4))
        self.assertEqual((len(program), program.controller.outcomes), (1, (3, 3, 3, 3)))


def range_back(many):
    return list(range(many))[::-1]
