import itertools
import random
import time
from fractions import Fraction

from farheld.boxes import (
    Piece, cut_pieces, moved_pieces, overlap_of, piece_at, pull_back, shadow_of, volume_of, widened_pieces,
)
from farheld.claims import first_claims, joined_slabs
from farheld.joining import joined_pieces
from farheld.ratios import make_ratio
from tests.helpers import HeldTest, whole


def sides_of(*ends):
    """Return sides of whole numbers."""
    return tuple([((low, 1), (high, 1)) for low, high in ends])


def box(*ends, memories=(0,)):
    return Piece(sides_of(*ends), memories)


def told(fraction):
    return (fraction.numerator, fraction.denominator)


def fractions(piece):
    return [(Fraction(*low), Fraction(*high)) for low, high in piece.sides]


def holds(sides, point):
    return all(low < place < high for (low, high), place in zip(sides, point))


def some_pieces(source, many, axes, size=8, bottoms=(1, 2, 3)):
    pieces = []
    for _ in range(many):
        sides = []
        for _ in range(axes):
            low, high = sorted(source.sample(range(-size, size + 1), 2))
            bottom = source.choice(bottoms)
            sides.append((make_ratio(low, bottom), make_ratio(high, bottom)))
        pieces.append(Piece(tuple(sides), (source.randint(0, 2), source.randint(0, 1))))
    return pieces


def some_disjoint(source, many, axes, size=8):
    kept = []
    for piece in some_pieces(source, many, axes, size):
        if overlap_of(kept + [piece]) is None:
            kept.append(piece)
    return kept


def cells_of(pieces, extra=()):
    """Return the middle and the volume of each cell of the grid that all ends make."""
    axes = len(pieces[0].sides)
    rows = []
    for axis in range(axes):
        ends = sorted({end for piece in pieces for end in fractions(piece)[axis]} | set(extra if axis == 0 else ()))
        rows.append([((low + high) / 2, high - low) for low, high in zip(ends, ends[1:])])
    for cell in itertools.product(*rows):
        volume = Fraction(1)
        for _, length in cell:
            volume *= length
        yield [middle for middle, _ in cell], volume


class PieceTest(HeldTest):
    def test_piece(self):
        sides, memories = sides_of((0, 1), (2, 3)), (4, 5)
        piece = Piece(sides, memories)
        self.assertIs(piece.sides, sides)
        self.assertIs(piece.memories, memories)
        self.assertTrue(piece == Piece(sides_of((0, 1), (2, 3)), (4, 5)))
        self.assertFalse(piece != Piece(sides, memories))
        for other in (Piece(sides, (4, 6)), Piece(sides[:1], memories), Piece(sides[::-1], memories), None, (sides, memories)):
            self.assertTrue(piece != other)
            self.assertFalse(piece == other)


class MeasureTest(HeldTest):
    def test_volumes(self):
        self.assertEqual(volume_of([]), (0, 1))
        self.assertEqual(volume_of((box((-3, 4)), box((0, 2)))), (9, 1))
        third = Piece((((-1, 3), (1, 3)), ((0, 1), (7, 5))), ())
        self.assertEqual(volume_of([third, third, box((0, 1), (0, 3))]), (73, 15))
        tiny = 10 ** 290
        self.assertEqual(volume_of([Piece((((0, 1), (1, tiny)), ((0, 1), (1, tiny))), ())]), (1, tiny ** 2))

    def test_shadows(self):
        self.assertEqual(shadow_of((), 0), (0, 1))
        self.assertEqual(shadow_of([box((0, 9))], 0), (1, 1))
        self.assertEqual(shadow_of([box((0, 9)), box((20, 21))], 0), (1, 1))
        pieces = [box((0, 2), (0, 5)), box((3, 4), (4, 7)), box((1, 2), (8, 9))]
        self.assertEqual([shadow_of(pieces, axis) for axis in (0, 1)], [(8, 1), (3, 1)])
        self.assertEqual(shadow_of([box((0, 1), (0, 2)), box((1, 2), (0, 2))], 1), (2, 1))

    def test_shadows_against_cells(self):
        source = random.Random(92)
        for _ in range(80):
            axes = source.randint(1, 4)
            pieces = some_pieces(source, source.randint(1, 6), axes, 5)
            for axis in range(axes):
                flat = [Piece(piece.sides[:axis] + piece.sides[axis + 1:], ()) for piece in pieces]
                due = Fraction(1)
                if axes > 1:
                    cells = cells_of(flat)
                    due = sum((volume for middle, volume in cells if any(holds(fractions(one), middle) for one in flat)), Fraction(0))
                self.assertEqual(shadow_of(pieces, axis), told(due))

    def test_overlaps(self):
        self.assertIsNone(overlap_of(()))
        self.assertIsNone(overlap_of([box((0, 1))]))
        self.assertIsNone(overlap_of([box((0, 1)), box((1, 2)), box((-1, 0))]))
        self.assertEqual(overlap_of([box((0, 1)), box((5, 9)), box((0, 1))]), (0, 2))
        self.assertEqual(overlap_of((box((0, 4), (0, 1)), box((1, 2), (1, 2)), box((3, 5), (0, 3)), box((1, 2), (0, 9)))), (0, 2))
        tiny = 10 ** 290
        self.assertEqual(overlap_of([box((0, 1)), Piece((((tiny - 1, tiny), (2, 1)),), ())]), (0, 1))
        source = random.Random(921)
        for _ in range(300):
            pieces = some_pieces(source, source.randint(2, 7), source.randint(1, 3), 6)
            due = None
            for one, other in itertools.combinations(range(len(pieces)), 2):
                sides = zip(fractions(pieces[one]), fractions(pieces[other]))
                if all(max(low, below) < min(high, above) for (low, high), (below, above) in sides):
                    due = (one, other)
                    break
            self.assertEqual(overlap_of(pieces), due)

    def test_piece_at(self):
        pieces = [box((0, 2), (0, 2)), box((1, 3), (0, 2)), box((5, 6), (0, 2))]
        for point, index in (((1, 1), 0), ((2, 1), 1), ((3, 1), None), ((0, 1), None), ((1, 2), None), ((1, 0), None)):
            for kept in (whole(*point), list(whole(*point))):
                self.assertEqual(piece_at(pieces, kept), index)
        self.assertEqual(piece_at(tuple(pieces), ((11, 2), (1, 3))), 2)
        self.assertIsNone(piece_at([], whole(1)))


class CutTest(HeldTest):
    def test_cuts_at_ends_doubled_and_in_any_order(self):
        pieces = [box((0, 4), (0, 1), memories=(1,)), box((-5, 0), (0, 1), memories=(2,))]
        cuts = [(3, 1), (0, 1), (1, 2), (3, 1), (4, 1), (-9, 1), (99, 1)]
        for given in (cuts, tuple(cuts)):
            parts = cut_pieces(pieces, 0, given)
            ends = [((0, 1), (1, 2)), ((1, 2), (3, 1)), ((3, 1), (4, 1))]
            due = [(0, Piece((end, ((0, 1), (1, 1))), (1,))) for end in ends]
            self.assertEqual(parts, tuple(due + [(1, pieces[1])]))
            self.are_tuples(tuple([part.sides for _, part in parts]))
        self.assertEqual(cuts, [(3, 1), (0, 1), (1, 2), (3, 1), (4, 1), (-9, 1), (99, 1)])
        self.assertEqual(cut_pieces(pieces, 1, ()), ((0, pieces[0]), (1, pieces[1])))
        self.assertEqual(cut_pieces([], 0, cuts), ())
        self.assertEqual([part.sides[1] for _, part in cut_pieces(pieces, 1, [(1, 2)])], [((0, 1), (1, 2)), ((1, 2), (1, 1))] * 2)

    def test_drawn_cuts(self):
        source = random.Random(93)
        for _ in range(60):
            axes = source.randint(1, 3)
            pieces, axis = some_pieces(source, source.randint(0, 5), axes), source.randrange(axes)
            cuts = [make_ratio(source.randint(-9, 9), source.choice((1, 2, 3))) for _ in range(source.randint(0, 6))]
            due = []
            for index, piece in enumerate(pieces):
                low, high = fractions(piece)[axis]
                ends = [low] + sorted({Fraction(*cut) for cut in cuts if low < Fraction(*cut) < high}) + [high]
                for begin, end in zip(ends, ends[1:]):
                    sides = piece.sides[:axis] + ((told(begin), told(end)),) + piece.sides[axis + 1:]
                    due.append((index, Piece(sides, piece.memories)))
            self.assertEqual(cut_pieces(pieces, axis, cuts), tuple(due))


class MoveTest(HeldTest):
    def test_images(self):
        pieces = [box((0, 4), (-1, 1), memories=(1,)), box((2, 3), (5, 6), memories=(2,))]
        for factors, shifts in (((-2, 1), (1, 3)), ((1, 2), (0, 1))), ([(-2, 1), (1, 3)], [(1, 2), (0, 1)]):
            moved = moved_pieces(pieces, factors, shifts)
            first = Piece((((-15, 2), (1, 2)), ((-1, 3), (1, 3))), (1,))
            second = Piece((((-11, 2), (-7, 2)), ((5, 3), (2, 1))), (2,))
            self.assertEqual(moved, (first, second))
        self.assertEqual(moved_pieces((), whole(1), whole(1)), ())

    def test_volumes_of_images(self):
        source = random.Random(931)
        for _ in range(40):
            axes = source.randint(1, 3)
            pieces = some_pieces(source, 4, axes)
            factors = [make_ratio(source.choice((-3, -1, 2, 5)), source.choice((1, 2))) for _ in range(axes)]
            moved = moved_pieces(pieces, factors, [make_ratio(source.randint(-4, 4), 3) for _ in range(axes)])
            scale = Fraction(1)
            for factor in factors:
                scale *= abs(Fraction(*factor))
            for one, other in zip(pieces, moved):
                self.assertEqual(Fraction(*volume_of([other])), scale * Fraction(*volume_of([one])))
                self.assertEqual(one.memories, other.memories)
            self.assertEqual(overlap_of(moved), overlap_of(pieces))


class WidenTest(HeldTest):
    def is_right(self, pieces, axis, by, parts):
        """Assert what [9.4] tells of widened pieces."""
        width = Fraction(*by)
        self.assertIsInstance(parts, tuple)
        self.assertIsNone(overlap_of([piece for _, piece in parts]))
        for index, piece in parts:
            self.assertEqual(piece.memories, pieces[index].memories)
            self.are_tuples((piece.sides, piece.memories))
            for at, ((low, high), (least, most)) in enumerate(zip(fractions(piece), fractions(pieces[index]))):
                more = width if at == axis else 0
                self.assertLess(low, high)
                self.assertTrue(least - more <= low and high <= most + more)
        # The middles of all cells of the grid of all ends tell the points that are in it.
        every = list(pieces) + [piece for _, piece in parts]
        given = [fractions(piece) for piece in pieces]
        made = [(index, fractions(piece)) for index, piece in parts]
        for middle, _ in cells_of(every):
            line = [(sides[axis], index) for index, sides in enumerate(given) if holds(sides[:axis] + sides[axis + 1:], middle[:axis] + middle[axis + 1:])]
            due = [index for (low, high), index in line if low < middle[axis] < high]
            if line and not due:
                low, lowest = min((low, index) for (low, _), index in line)
                high, highest = max((high, index) for (_, high), index in line)
                if low - width < middle[axis] < low:
                    due = [lowest]
                if high < middle[axis] < high + width:
                    due = [highest]
            memories = [pieces[index].memories for index in due]
            self.assertEqual([pieces[index].memories for index, sides in made if holds(sides, middle)], memories)

    def test_small_ones(self):
        self.assertEqual(widened_pieces([], 0, (1, 1)), ())
        self.assertEqual(widened_pieces([box((0, 2))], 0, (1, 2)), ((0, Piece((((-1, 2), (5, 2)),), (0,))),))
        for by in ((1, 3), (1, 1), (9, 2)):
            pieces = [box((3, 4), memories=(1,)), box((0, 1), memories=(2,)), box((1, 2), memories=(3,))]
            parts = widened_pieces(pieces, 0, by)
            self.is_right(pieces, 0, by, parts)
            volume = 3 + 2 * Fraction(*by)
            self.assertEqual(volume_of([piece for _, piece in parts]), told(volume))

    def test_one_below_another(self):
        pieces = [box((0, 1), (0, 4), memories=(1,)), box((3, 5), (2, 6), memories=(2,)), box((2, 3), (5, 7), memories=(3,))]
        for by in ((1, 3), (1, 1), (2, 1), (5, 1)):
            for axis in (0, 1):
                self.is_right(pieces, axis, by, widened_pieces(pieces, axis, by))

    def test_drawn_ones(self):
        source = random.Random(94)
        for at in range(150):
            axes = source.randint(1, 3)
            pieces = some_disjoint(source, source.randint(1, 9), axes, 4 if axes == 3 else 7)
            axis, by = source.randrange(axes), make_ratio(source.randint(1, 6), source.choice((1, 2, 5)))
            for given in (pieces, tuple(pieces)):
                parts = widened_pieces(given, axis, by)
            self.is_right(pieces, axis, by, parts)
            # The volume grows by twice the width times the shadow.
            due = Fraction(*volume_of(pieces)) + 2 * Fraction(*by) * Fraction(*shadow_of(pieces, axis))
            self.assertEqual(volume_of([piece for _, piece in parts]), told(due))


class PullTest(HeldTest):
    def test_points_inside_stay(self):
        sides = sides_of((0, 4), (1, 3))
        for point in (((1, 2), (2, 1)), [(7, 2), (3, 2)]):
            self.assertEqual(pull_back(sides, 0, (1, 1), point), tuple(point))

    def test_points_at_and_behind_ends(self):
        sides = sides_of((0, 4), (1, 3))
        for place, by, due in (
            ((0, 1), (1, 1), (1, 2)), ((-1, 2), (1, 1), (1, 4)), ((0, 1), (9, 1), (2, 1)), ((-4, 1), (9, 1), (2, 1)), ((-6, 1), (9, 1), (3, 2)),
            ((4, 1), (1, 1), (7, 2)), ((9, 2), (1, 1), (15, 4)), ((4, 1), (9, 1), (2, 1)), ((8, 1), (9, 1), (2, 1)), ((10, 1), (9, 1), (5, 2)),
        ):
            self.assertEqual(pull_back(sides, 0, by, (place, (2, 1))), (due, (2, 1)))
            self.assertEqual(pull_back(sides[::-1], 1, by, [(2, 1), place]), ((2, 1), due))

    def test_a_pulled_point_is_inside_and_near(self):
        source = random.Random(941)
        for _ in range(200):
            low, length, by = [Fraction(source.randint(1, 30), source.randint(1, 9)) for _ in range(3)]
            place = low - by + (length + 2 * by) * Fraction(source.randint(1, 99), 100)
            (pulled,) = pull_back(((told(low), told(low + length)),), 0, told(by), (told(place),))
            self.assertTrue(low < Fraction(*pulled) < low + length)
            self.assertLess(abs(Fraction(*pulled) - place), by)


class JoinTest(HeldTest):
    def test_touching_pieces_are_joined(self):
        pieces = [box((1, 2)), box((0, 1)), box((3, 4)), box((2, 3), memories=(1,)), box((4, 5))]
        due = [box((0, 2)), box((3, 5)), box((2, 3), memories=(1,))]
        joined = joined_pieces(pieces)
        self.assertEqual(len(joined), 3)
        self.assertTrue(all(piece in joined for piece in due))
        corner = [box((0, 1), (0, 1)), box((0, 1), (1, 2)), box((1, 2), (0, 2))]
        self.assertEqual(joined_pieces(corner), [box((0, 2), (0, 2))])
        square = [box((x, x + 1), (y, y + 1)) for x in range(5) for y in range(4)]
        self.assertEqual(joined_pieces(square), [box((0, 5), (0, 4))])

    def test_slabs_are_joined_where_nothing_lies_between(self):
        one, other = ("a", ((0, 2),)), ("b", ((0, 2),))
        slabs = [((0, 1), [one]), ((1, 2), [one, other]), ((2, 3), [other]), ((5, 6), [other]), ((6, 7), []), ((7, 8), [other])]
        due = [("a", ((0, 2), (0, 2))), ("b", ((1, 3), (0, 2))), ("b", ((5, 6), (0, 2))), ("b", ((7, 8), (0, 2)))]
        self.assertEqual(joined_slabs(slabs), due)

    def test_claims_are_not_parted_needlessly(self):
        boxes = [box(*ends).sides for ends in (((0, 4), (0, 1)), ((2, 3), (0, 9)), ((0, 6), (0, 9)), ((1, 5), (2, 3)))]
        due = [(0, ((0, 4), (0, 1))), (1, ((2, 3), (1, 9))), (2, ((0, 2), (1, 9))), (2, ((3, 4), (1, 9))), (2, ((4, 6), (0, 9)))]
        self.assertEqual(sorted(first_claims(boxes)), [(place, sides_of(*ends)) for place, ends in due])
        boxes = [box(ends).sides for ends in ((3, 5), (0, 9), (1, 2))]
        self.assertEqual(sorted(first_claims(boxes)), [(0, sides_of((3, 5))), (1, sides_of((0, 3))), (1, sides_of((5, 9)))])
        self.assertEqual(first_claims([]), [])

    def test_drawn_ones(self):
        source = random.Random(942)
        for _ in range(60):
            axes = source.randint(1, 3)
            pieces = some_disjoint(source, 8, axes, 3)
            joined = joined_pieces(pieces)
            self.assertLessEqual(len(joined), len(pieces))
            self.assertIsNone(overlap_of(joined))
            for middle, _ in cells_of(pieces):
                ways = [[piece.memories for piece in some if holds(fractions(piece), middle)] for some in (pieces, joined)]
                self.assertEqual(ways[0], ways[1])


class LargeTest(HeldTest):
    def test_thousands_of_pieces_are_quick(self):
        source = random.Random(95)
        begun = time.process_time()
        for axes, many in ((1, 5000), (2, 70), (3, 17)):
            pieces = []
            for cell in itertools.product(range(many), repeat=axes):
                sides = [(make_ratio(21 * at + source.randint(0, 7), 7), make_ratio(21 * at + source.randint(14, 20), 7)) for at in cell]
                pieces.append(Piece(tuple(sides), (source.randint(0, 3),)))
            source.shuffle(pieces)
            self.assertIsNone(overlap_of(pieces))
            parts = widened_pieces(pieces, axes - 1, (1, 5))
            due = Fraction(*volume_of(pieces)) + Fraction(2, 5) * Fraction(*shadow_of(pieces, axes - 1))
            self.assertEqual(volume_of([piece for _, piece in parts]), told(due))
            cut_pieces(pieces, 0, [(place, 3) for place in range(1000)])
        for axes in (1, 2, 3):
            pieces = some_pieces(source, 2000, axes, 1000, (1, 2, 3, 997))
            self.assertIsNotNone(overlap_of(pieces))
            shadow_of(pieces, axes - 1)
        self.assertLess(time.process_time() - begun, 6)
