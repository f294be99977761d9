from farheld.errors import BadLots
from farheld.lots import least_lots, lies_within
from tests.helpers import NO_SEQUENCES, HeldTest


class LotsTest(HeldTest):
    def test_least_lists(self):
        for lots, least in (
            ((), ((),)), ([()], ((),)), ([[], []], ((),)), ([[0], []], ((0,),)), ([[1, 0], [0], [1]], ((0, 1),)),
            ([[2], [1, 0, 1], [0, 1]], ((0, 1), (2,))), ([[3], (0,), [2, 1]], ((0,), (1, 2), (3,))),
            ([[0, 1], [1, 2], [0, 2], [1]], ((0, 1), (0, 2), (1, 2))), ([[3, 3, 3]] * 16, ((3,),)),
        ):
            self.assertEqual(least_lots(lots, 4), least)
            self.assertEqual(least_lots(tuple(lots), 4), least)
            self.are_tuples(least_lots(lots, 4))

    def test_nothing_is_changed(self):
        lots = [[1, 0], [2, 2]]
        least_lots(lots, 3)
        self.assertEqual(lots, [[1, 0], [2, 2]])

    def test_wrong_lots(self):
        for thing in NO_SEQUENCES + ([[]] * 17,):
            self.raises(BadLots, {"index": 0, "what": "many"}, least_lots, thing, 2)
        for thing in NO_SEQUENCES:
            self.raises(BadLots, {"index": 1, "what": "lot"}, least_lots, [[0], thing, [9]], 2)
        for thing in (2, -1, True, False, "0", None, (0,), 1.0):
            self.raises(BadLots, {"index": 2, "what": "sensor"}, least_lots, [[0], [], (1, thing), 7], 2)
        self.raises(BadLots, {"index": 0, "what": "sensor"}, least_lots, [[0]], 0)

    def test_lies_within(self):
        self.assertIs(lies_within((0, 1), ((1, 2), (2, 1, 0))), True)
        self.assertIs(lies_within([0, 1], [[0], [1]]), False)
        self.assertIs(lies_within((), ((),)), True)
        self.assertIs(lies_within((), ()), False)
        self.assertIs(lies_within((3,), [()]), False)
