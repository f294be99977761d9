import random
import time
from fractions import Fraction
from unittest import mock

from farheld import joining
from farheld.boxes import Piece, overlap_of, piece_at, volume_of
from farheld.channels import Channel
from farheld.clouds import first_cloud, greatest_row, kept_volumes, next_cloud, trace_run
from farheld.errors import BadPoint, Unheard
from farheld.forms import make_form
from farheld.plants import Plant
from farheld.programs import Coder, Controller, Program
from farheld.ratios import make_ratio, minus, plus, times
from farheld.running import run_fault, walk
from farheld.worlds import Sensor, World
from tests.helpers import NO_RATIOS, NO_SEQUENCES, NO_WHOLES, HeldTest, plain_plant, ring, whole
from tests.plainclouds import plain_first, plain_next, plain_volumes, volume_at
from tests.programs import some_plant_world, some_program


def told(fraction):
    return (fraction.numerator, fraction.denominator)


def middle_of(piece):
    return tuple([times((1, 2), plus(low, high)) for low, high in piece.sides])


def line_world(use=((0,), (1,)), factor=(2, 1), lots=()):
    """Return a world of one mode and one sensor, pushed by 1."""
    return World(plain_plant(factor, start=(3, 1)), [Sensor((0,), Channel(3, [use]))], lots)


def line_program(thresholds, replies, memories=1, recall=False, step=((0, 1), ())):
    rule = (recall, [(0, [((threshold, 1), ()) for threshold in thresholds])], replies)
    words = 1 + max(word for word, _ in replies)
    return Program(Controller((3,), 1, (), [((), [(0, (), [(0, step)])])]), [Coder(words, (0,), [rule], memories)])


class SmallTest(HeldTest):
    def test_attributes(self):
        plant = Plant([whole(2, 3), whole(1, -1), whole(5, 5)], whole(1, 2, 3), whole(0, 0, 0))
        table = [[(1, 2), (2,)], [(0,), (1,)]]
        world = World(plant, [Sensor((0, 1), Channel(3, table)), Sensor((2,), Channel.clean(2, 2))], [[1]])
        moves = [(1, [(0, ((7, 2), ()))], [(place % 3, ((place + 1, 1), ((0, (1, 1)),)))]) for place in range(6)]
        rows = [((0, 1), moves), ((), [(0, (), ())])]
        rule = (False, (), [(1, 1)])
        coders = [Coder(2, (0, 1), [rule, rule], 3), Coder(2, (), [rule, rule], 2)]
        program = Program(Controller((3, 2), 3, [(1, 2)], rows), coders)
        for modes, liars in (((1, 2), (1,)), ([1, 2], [1])):
            cloud = first_cloud(world, program, modes, liars)
            # Word 1 of the first sensor comes as 2, the liar's word 0 as 0: row 4, mode 1 is steered to 11/2.
            self.assertEqual((cloud.tick, cloud.state, cloud.registers), (1, 1, ((7, 2),)))
            self.assertEqual((cloud.modes, cloud.liars, cloud.outcomes), ((1, 2), (1,), (2, 0)))
            self.assertEqual(cloud.positions, ((0, 1), None, None))
            self.assertEqual([piece.sides for piece in cloud.pieces], [(((7, 2), (15, 2)), ((-3, 1), (3, 1)))])
            self.assertEqual(cloud.pieces[0].memories[0], 1)
            self.are_tuples((cloud.modes, cloud.liars, cloud.positions, cloud.pieces, cloud.registers, cloud.outcomes))
        honest = first_cloud(world, program, (0,), ())
        self.assertEqual((honest.outcomes, honest.positions), ((2, 1), (None, (0, 1), (13, 2))))
        self.assertEqual(honest.pieces, (Piece((((-1, 1), (1, 1)),), (1, 1)),))

    def test_one_threshold(self):
        world, program = line_world(), line_program([0], [(0, None), (1, None)])
        cloud = first_cloud(world, program, (0,), ())
        self.assertEqual(kept_volumes(world, program, cloud), (((0,), (1, 1)), ((1,), (1, 1))))
        self.assertEqual(greatest_row(world, program, cloud), (0,))
        for outcomes, side in (((0,), ((-3, 1), (1, 1))), ([1], ((-1, 1), (3, 1)))):
            behind = next_cloud(world, program, cloud, outcomes)
            self.assertEqual([piece.sides for piece in behind.pieces], [(side,)])
            self.assertEqual((behind.tick, behind.outcomes), (2, tuple(outcomes)))
        later = next_cloud(world, program, next_cloud(world, program, cloud, (0,)), (0,))
        self.assertEqual([piece.sides for piece in later.pieces], [(((-7, 1), (1, 1)),)])
        self.assertEqual(kept_volumes(world, program, later), (((0,), (7, 1)), ((1,), (1, 1))))

    def test_the_greatest_and_of_equal_ones_the_least_row(self):
        world = line_world(((0, 2), (1,), (1, 2)))
        program = line_program([-1, 0, 1], [(0, None), (0, None), (1, None), (2, None)])
        cloud = first_cloud(world, program, (0,), ())
        self.assertEqual(kept_volumes(world, program, cloud), (((0,), (1, 1)), ((1,), (1, 1)), ((2,), (1, 1))))
        self.assertEqual(greatest_row(world, program, cloud), (0,))
        program = line_program([0], [(1, None), (2, None)])
        cloud = first_cloud(world, program, (0,), ())
        self.assertEqual(kept_volumes(world, program, cloud), (((1,), (2, 1)), ((2,), (1, 1))))
        self.assertEqual(greatest_row(world, program, cloud), (1,))
        program = line_program([0], [(0, None), (2, None)])
        cloud = first_cloud(world, program, (0,), ())
        self.assertEqual(kept_volumes(world, program, cloud), (((0,), (1, 1)), ((1,), (1, 1)), ((2,), (2, 1))))
        self.assertEqual(greatest_row(world, program, cloud), (2,))

    def test_gaps_stay_and_only_the_outer_ends_are_widened(self):
        world = line_world(((0,), (1,)), (3, 1))
        program = line_program([0], [(0, None), (1, None)])
        rule = (False, [(0, [((-1, 2), ()), ((1, 2), ())])], [(0, None), (1, None), (0, None)])
        program = Program(program.controller, [Coder(2, (0,), [rule])])
        cloud = first_cloud(world, program, (0,), ())
        behind = next_cloud(world, program, cloud, (0,))
        self.assertEqual(sorted(piece.sides for piece in behind.pieces), [(((-4, 1), (-3, 2)),), (((3, 2), (4, 1)),)])
        self.assertEqual(volume_of(behind.pieces), (5, 1))

    def test_liars_send_word_0_and_rows_that_are_not_heard(self):
        world = World(plain_plant((2, 1)), [Sensor((0,), Channel(3, [[(0, 1), (2,)]])), Sensor((0,), Channel.clean(3))], [[0]])
        rule = (False, [(0, [((0, 1), ())])], [(0, None), (1, None)])
        program = Program(Controller((3, 3), 1, (), [((0, 1), [(0, (), ())] * 9)]), [Coder(2, (0,), [rule])] * 2)
        cloud = first_cloud(world, program, (0,), (0,))
        rows = [(0, 0), (0, 1), (1, 0), (1, 1)]
        self.assertEqual([row for row, _ in kept_volumes(world, program, cloud)], rows)
        for thing in NO_SEQUENCES + ((), (0,), (0, 0, 0), (2, 0), (0, 2), (3, 0), (0, 3), (-1, 0)) + tuple((one, 0) for one in NO_WHOLES):
            self.raises(Unheard, {"outcomes": thing}, next_cloud, world, program, cloud, thing)
        outcomes = [2, 0]
        with self.assertRaises(Unheard) as caught:
            next_cloud(world, program, cloud, outcomes)
        self.assertIs(caught.exception.outcomes, outcomes)
        honest = first_cloud(world, program, (0,), ())
        self.assertEqual([row for row, _ in kept_volumes(world, program, honest)], [(0, 0), (1, 0), (2, 1)])
        self.raises(Unheard, {"outcomes": (0, 1)}, next_cloud, world, program, honest, (0, 1))

    def test_worlds_without_sensors(self):
        world = World(plain_plant((2, 1), (3, 1)), ())
        program = Program(Controller((), 2, (), [((), [(0, (), [(1, ((1, 2), ()))])])]), ())
        cloud = first_cloud(world, program, (0, 1), ())
        self.assertEqual(kept_volumes(world, program, cloud), (((), (4, 1)),))
        self.assertEqual(greatest_row(world, program, cloud), ())
        behind = next_cloud(world, program, cloud, ())
        self.assertEqual([piece.sides for piece in behind.pieces], [(((-3, 1), (3, 1)), ((-1, 1), (5, 1)))])
        self.raises(Unheard, {"outcomes": (0,)}, next_cloud, world, program, cloud, (0,))

    def test_cuts_that_no_longer_matter_do_not_make_ever_more_pieces(self):
        # The memory tells the last side for one tick; of many parts those are joined that are one again.
        world = line_world(((0, 1), (0, 1)))
        sides = (True, [(0, [((place, 1), ()) for place in range(-5, 6)])], [(0, place % 2) for place in range(12)] * 2)
        program = Program(Controller((3,), 1, (), [((), [(0, (), ())])]), [Coder(2, (0,), [sides], 2)])
        cloud = first_cloud(world, program, (0,), ())
        for _ in range(60):
            cloud = next_cloud(world, program, cloud, greatest_row(world, program, cloud))
            self.assertLessEqual(len(cloud.pieces), 62)
        self.assertEqual(volume_of(cloud.pieces), (2 * (2 ** 61 - 1), 1))

class DrawnTest(HeldTest):
    """Drawn clouds are compared with those by the plain words, and points of them are traced."""

    def volumes_by_memories(self, pieces):
        sums = {}
        for box, memories in pieces:
            sums[memories] = sums.get(memories, Fraction(0)) + volume_at(box)
        return sums

    def compared(self, cloud, plain, liars):
        self.assertIsNone(overlap_of(cloud.pieces))
        self.are_tuples((cloud.pieces, cloud.positions, cloud.outcomes, cloud.registers))
        pieces = []
        for piece in cloud.pieces:
            self.are_tuples((piece.sides, piece.memories))
            memories = tuple(0 if at in liars else memory for at, memory in enumerate(piece.memories))
            pieces.append(([(Fraction(*low), Fraction(*high)) for low, high in piece.sides], memories))
        due = [(box, tuple(0 if at in liars else one for at, one in enumerate(memories))) for box, memories in plain.pieces]
        self.assertEqual(self.volumes_by_memories(pieces), self.volumes_by_memories(due))
        for box, memories in due:
            middle = [(low + high) / 2 for low, high in box]
            found = [kept for sides, kept in pieces if all(low < one < high for (low, high), one in zip(sides, middle))]
            # The middle may lie on an end between two pieces.
            self.assertIn(found, ([memories], []))
        self.assertEqual((cloud.tick, cloud.state), (plain.tick, plain.state))
        self.assertEqual([Fraction(*one) for one in cloud.registers], plain.registers)
        self.assertEqual([None if one is None else Fraction(*one) for one in cloud.positions], plain.positions)

    def points_of(self, source, piece, plain):
        points = [middle_of(piece), list(middle_of(piece))]
        for _ in range(2):
            parts = [make_ratio(source.randint(1, 99), 100) for _ in piece.sides]
            points.append(tuple([plus(low, times(part, minus(high, low))) for (low, high), part in zip(piece.sides, parts)]))
        for box, _ in plain.pieces[:12]:
            # Corners of the plain pieces, where parts may have been joined.
            points.extend([tuple([told(side[end]) for side in box]) for end in (0, 1)])
        return [point for point in points if piece_at([piece], point) == 0]

    def traced(self, world, program, clouds, piece, point):
        cloud = clouds[-1]
        run = trace_run(world, program, clouds, point)
        self.are_tuples((run.start, run.liars, run.ticks))
        self.assertIsNone(run_fault(world, program, run))
        self.assertEqual((run.start, run.liars), (whole(*[0] * world.plant.modes), cloud.liars))
        self.assertEqual([tick[1] for tick in run.ticks], [one.outcomes for one in clouds])
        last = walk(world, program, run)[-1]
        due = list(cloud.positions)
        for mode, place in zip(cloud.modes, point):
            due[mode] = place
        self.assertEqual((last.tick, last.positions), (cloud.tick, tuple(due)))
        self.assertEqual((last.state, last.registers), (cloud.state, cloud.registers))
        for at, memory in enumerate(last.memories):
            self.assertTrue(at in cloud.liars or memory == piece.memories[at])
        for words, _, pushes in run.ticks:
            self.assertTrue(all(words[liar] == 0 for liar in cloud.liars))
            self.assertTrue(all(push == (0, 1) for mode, push in enumerate(pushes) if mode not in cloud.modes))

    def test_drawn_clouds(self):
        source = random.Random(98)
        seen = {"modes": set(), "liars": 0, "pieces": 0, "traced": 0}
        for _ in range(260):
            world = some_plant_world(source, size=2)
            program = some_program(source, world)
            modes = tuple(sorted(source.sample(range(world.plant.modes), source.randint(1, world.plant.modes))))
            liars = source.choice(world.lots)
            # In some of them all that can be joined is joined, as if the pieces were many.
            patch = mock.patch.object(joining, "FEW", source.choice((0, 50)))
            patch.start()
            self.addCleanup(patch.stop)
            cloud = first_cloud(world, program, modes, liars)
            outcomes, plain = plain_first(world, program, modes, liars)
            self.assertEqual(cloud.outcomes, outcomes)
            clouds = [cloud]
            while True:
                self.compared(cloud, plain, liars)
                if len(clouds) == 5 or len(plain.pieces) > 60:
                    break
                volumes = plain_volumes(world, program, modes, liars, plain)
                self.assertEqual(kept_volumes(world, program, cloud), tuple([(row, told(volume)) for row, volume in volumes]))
                self.are_tuples(kept_volumes(world, program, cloud))
                most = max(volume for _, volume in volumes)
                row = next(row for row, volume in volumes if volume == most)
                self.assertEqual(greatest_row(world, program, cloud), row)
                if source.random() < 0.4:
                    row = source.choice(volumes)[0]
                cloud = next_cloud(world, program, cloud, source.choice((row, list(row))))
                plain = plain_next(world, program, modes, liars, plain, row)
                clouds.append(cloud)
                self.assertEqual(cloud.outcomes, row)
            for piece in cloud.pieces[:6]:
                for point in self.points_of(source, piece, plain):
                    self.traced(world, program, source.choice((clouds, tuple(clouds))), piece, point)
                    seen["traced"] += 1
            patch.stop()
            seen["modes"].add(modes)
            seen["liars"] += len(liars) > 0
            seen["pieces"] = max(seen["pieces"], len(cloud.pieces))
        self.assertTrue(len(seen["modes"]) == 7 and seen["liars"] > 20 and seen["pieces"] > 5 and seen["traced"] > 500, seen)


class TraceTest(HeldTest):
    def test_points_that_are_none(self):
        world, program = line_world(), line_program([0], [(0, None), (1, None)])
        clouds = [first_cloud(world, program, (0,), ())]
        clouds.append(next_cloud(world, program, clouds[0], (0,)))
        for thing in NO_SEQUENCES + ((), whole(0, 0), whole(-3), whole(1), whole(2), whole(-9)) + tuple((one,) for one in NO_RATIOS):
            self.raises(BadPoint, {}, trace_run, world, program, clouds, thing)
        self.assertEqual(len(trace_run(world, program, clouds[:1], [(-1, 2)]).ticks), 1)
        big = 10 ** 250
        run = trace_run(world, program, clouds, ((1 - 3 * big, big),))
        self.assertEqual(walk(world, program, run)[-1].positions, ((1 - 3 * big, big),))

    def test_a_point_on_the_end_of_joined_parts(self):
        # 61 parts are told apart for one tick, then they are joined; their ends lie in the piece.
        world = line_world(((0, 1), (0, 1)))
        thresholds = [make_form(make_ratio(place, 31)) for place in range(-30, 31)]
        first = (False, [(0, thresholds)], [(0, place % 2) for place in range(62)])
        rules = [first, first, (True, (), [(0, 0), (0, 0)])]
        rows = [((), [(1, (), ())]), ((), [(2, (), ())]), ((), [(2, (), ())])]
        program = Program(Controller((3,), 1, (), rows), [Coder(1, (0,), rules, 2)])
        clouds = [first_cloud(world, program, (0,), ())]
        for many in (62, 1, 1):
            clouds.append(next_cloud(world, program, clouds[-1], (0,)))
            self.assertEqual(len(clouds[-1].pieces), many)
        for place in (0, 1, -7, 30):
            for at, scale in ((3, 4), (4, 8)):
                point = [make_ratio(scale * place, 31)]
                run = trace_run(world, program, clouds[:at], point)
                self.assertIsNone(run_fault(world, program, run))
                self.assertEqual(walk(world, program, run)[-1].positions, tuple(point))

    def test_a_point_just_a_push_away_from_a_part(self):
        # The part below -1/2 ends a whole push below 1/2, so it cannot be what is led there.
        world = line_world(factor=(1, 1))
        rule = (False, [(0, [((-1, 2), ()), ((1, 4), ())])], [(0, None), (1, None), (0, None)])
        program = Program(Controller((3,), 1, (), [((), [(0, (), ())])]), [Coder(2, (0,), [rule])])
        clouds = [first_cloud(world, program, (0,), ())]
        clouds.append(next_cloud(world, program, clouds[0], (0,)))
        self.assertEqual(len(clouds[1].pieces), 2)
        run = trace_run(world, program, clouds, [(1, 2)])
        self.assertIsNone(run_fault(world, program, run))
        self.assertEqual(walk(world, program, run)[-1].positions, ((1, 2),))


class LargeTest(HeldTest):
    def test_thousands_of_pieces_are_quick(self):
        source = random.Random(981)
        many = 40
        world = World(plain_plant((3, 2), (3, 2), push=(3, 1)), [Sensor((0, 1), Channel(3, [ring(3)]))])
        looks = [(mode, [make_form(make_ratio(6 * (2 * at - many) + 1, 2 * many)) for at in range(many)]) for mode in (0, 1)]
        replies = [(source.randrange(3), source.choice((None, 0, 1))) for _ in range((many + 1) ** 2)]
        moves = [(0, (), [(mode, ((source.randint(-2, 2), 1), ())) for mode in (0, 1)]) for _ in range(3)]
        program = Program(Controller((3,), 2, (), [((0,), moves)]), [Coder(3, (0, 1), [(False, looks, replies)], 2)])
        begun = time.process_time()
        clouds = [first_cloud(world, program, (0, 1), ())]
        for _ in range(4):
            clouds.append(next_cloud(world, program, clouds[-1], greatest_row(world, program, clouds[-1])))
        self.assertGreater(len(clouds[-1].pieces), 1000)
        run = trace_run(world, program, clouds, middle_of(clouds[-1].pieces[-1]))
        self.assertIsNone(run_fault(world, program, run))
        self.assertLess(time.process_time() - begun, 3)

    def test_many_thresholds_that_do_not_matter(self):
        # Each coder cuts another axis at 100 places, but all its words can come out alike.
        world = World(plain_plant((2, 1), (2, 1), (2, 1)), [Sensor((axis,), Channel.clean(12).silenced()) for axis in range(3)])
        coders = []
        for axis in range(3):
            looks = [(axis, [make_form(make_ratio(2 * at - 99, 200)) for at in range(100)])]
            coders.append(Coder(12, (axis,), [(False, looks, [(at % 12, None) for at in range(101)])]))
        program = Program(Controller((12,) * 3, 3, (), [((), [(0, (), ())])]), coders)
        begun = time.process_time()
        cloud = first_cloud(world, program, (0, 1, 2), ())
        for _ in range(30):
            self.assertEqual(greatest_row(world, program, cloud), (0, 0, 0))
            cloud = next_cloud(world, program, cloud, (11, 0, 5))
        self.assertEqual(len(kept_volumes(world, program, cloud)), 12 ** 3)
        self.assertEqual(len(cloud.pieces), 1)
        self.assertLess(time.process_time() - begun, 2)

    def test_four_silent_sensors_of_twelve_outcomes(self):
        world = World(plain_plant((1, 1)), [Sensor((0,), Channel.clean(12).silenced())] * 4)
        coder = Coder(12, (0,), [(False, [(0, [((0, 1), ())])], [(3, None), (7, None)])])
        program = Program(Controller((12,) * 4, 1, (), [((), [(0, (), ())])]), [coder] * 4)
        begun = time.process_time()
        cloud = first_cloud(world, program, (0,), ())
        volumes = kept_volumes(world, program, cloud)
        self.assertEqual((len(volumes), volumes[-1]), (12 ** 4, ((11, 11, 11, 11), (2, 1))))
        for _ in range(300):
            cloud = next_cloud(world, program, cloud, greatest_row(world, program, cloud))
        self.assertLess(time.process_time() - begun, 3)
