import random
import time

from farheld.counts import count_messages, counts_behind
from farheld.errors import ManyMessages
from farheld.trees import Telling, tree_fault, tree_of
from tests.helpers import DEAD, RING, HeldTest, as_lists, clean_use, each_misses_one, ring
from tests.test_shares import some_use


def paths_of(telling):
    """Return all rows of outcomes that can come of some message, with the messages left."""
    found = [((), tuple(range(telling.many)))]
    for use in telling.uses:
        longer = []
        for path, left in found:
            if not left:
                continue
            for outcome in range(1 + max(max(heard) for heard in use)):
                longer.append((path + (outcome,), telling.messages_left(path + (outcome,))))
        found = longer
    return found


def some_telling(source, most_uses=3):
    uses = []
    for _ in range(source.randint(0, most_uses)):
        one = some_use(source, source.randint(1, 5), source.randint(1, 5))
        uses.append(source.choice((one, ring(3), RING, each_misses_one(4))))
    start = source.randint(1, 4)
    many = count_messages(uses, start)
    return Telling(as_lists(uses, False), source.choice((many, source.randint(0, many))), start)


class TellingTest(HeldTest):
    def test_attributes(self):
        uses = [[[0, 1], [2]], [[0], [1]]]
        telling = Telling(uses, 2, 3)
        self.assertEqual((telling.uses, telling.many, telling.start), ((((0, 1), (2,)), ((0,), (1,))), 2, 3))
        self.are_tuples(telling.uses)
        self.assertEqual(uses, [[[0, 1], [2]], [[0], [1]]])
        uses[0][0].append(2)
        uses.pop()
        self.assertEqual(telling.uses, (((0, 1), (2,)), ((0,), (1,))))
        self.assertEqual(Telling([], many=1).start, 1)

    def test_as_many_as_can_be_told_and_one_more(self):
        for uses, start, greatest in (
            ([], 1, 1), ([], 600, 600), ([RING] * 3, 1, 12), ([clean_use(12)] * 64, 7, 600), ([DEAD], 599, 599),
            ([ring(3)] * 3, 1, 1), ([ring(3)] * 3, 2, 6),
        ):
            self.assertEqual(Telling(uses, greatest, start).many, greatest)
            self.assertEqual(Telling(uses, 0, start).many, 0)
            self.raises(ManyMessages, {"greatest": greatest}, Telling, uses, greatest + 1, start)

    def test_deals_keep_what_the_later_uses_can_tell(self):
        source = random.Random(31)
        for _ in range(40):
            telling = some_telling(source, 5)
            behind = counts_behind(telling.uses, telling.start)[::-1]
            for at, use in enumerate(telling.uses):
                for size in {0, 1, behind[at], source.randint(0, behind[at])}:
                    dealt = telling.dealt_at(at, size)
                    self.assertIsInstance(dealt, tuple)
                    self.assertEqual((len(dealt), sum(dealt)), (len(use), size))
                    self.assertTrue(all(many >= 0 for many in dealt))
                    self.assertEqual(telling.dealt_at(at, size), dealt)
                    for outcome in range(12):
                        left = sum(many for heard, many in zip(use, dealt) if outcome in heard)
                        self.assertEqual(telling.size_after(at, size, outcome), left)
                        self.assertLessEqual(left, behind[at + 1])

    def test_places(self):
        source = random.Random(32)
        for _ in range(40):
            telling = some_telling(source)
            for at, use in enumerate(telling.uses):
                size = source.randint(0, counts_behind(telling.uses, telling.start)[::-1][at])
                words = [word for word, many in enumerate(telling.dealt_at(at, size)) for _ in range(many)]
                for outcome in range(13):
                    stay = [place for place, word in enumerate(words) if outcome in use[word]]
                    for place in range(size):
                        told = stay.index(place) if place in stay else None
                        self.assertEqual(telling.place_after(at, size, place, outcome), told)

    def test_messages_are_told(self):
        source = random.Random(33)
        for _ in range(60):
            telling = some_telling(source)
            told = {message: 0 for message in range(telling.many)}
            for path, left in paths_of(telling):
                self.assertIsInstance(left, tuple)
                self.assertEqual(left, tuple(sorted(left)))
                self.assertLessEqual(len(left), telling.start)
                self.assertEqual(telling.message_of(path), left[0] if left else 0)
                self.assertIsNone(telling.word_said(path, left[0] if left else 0))
                for message in left:
                    told[message] += 1
                    for at, outcome in enumerate(path):
                        word = telling.word_said(list(path[:at]), message)
                        self.assertIn(outcome, telling.uses[at][word])
            self.assertTrue(all(told.values()))

    def test_outcomes_that_do_not_come(self):
        telling = Telling([clean_use(2), DEAD, clean_use(2)], 4)
        self.assertEqual(telling.size_after(0, 4, 2), 0)
        self.assertEqual(telling.size_after(0, 4, 11), 0)
        self.assertEqual(telling.place_after(0, 4, 0, 7), None)
        for path in ((7,), [7, 0], (0, 7, 1)):
            self.assertEqual(telling.messages_left(path), ())
            self.assertEqual(telling.message_of(path), 0)
            self.assertIsNone(telling.word_said(path, 0))
        self.assertEqual(telling.messages_left([]), (0, 1, 2, 3))
        self.assertEqual(telling.messages_left([1, 1]), (2, 3))
        self.assertEqual(telling.message_of((1, 1)), 2)
        self.assertEqual(telling.word_said((1, 1), 3), 1)
        self.assertIsNone(telling.word_said((1, 1), 1))
        self.assertIsNone(telling.word_said((), 4))

    def test_no_and_one_message(self):
        telling = Telling([RING, RING], 0)
        self.assertEqual((telling.messages_left(()), telling.message_of((0, 1)), telling.word_said((), 0)), ((), 0, None))
        telling = Telling([RING, RING], 1)
        self.assertEqual(telling.messages_left(()), (0,))
        self.assertIn(telling.word_said((), 0), range(5))

    def test_600_messages_over_64_uses(self):
        source = random.Random(34)
        uses = [source.sample(ring(11), 11) for _ in range(30)] + [DEAD] * 34
        begun = time.process_time()
        telling = Telling(uses, 600)
        message = 599
        path = ()
        while len(path) < 64:
            path += (source.choice(telling.uses[len(path)][telling.word_said(path, message)]),)
        self.assertEqual(telling.messages_left(path), (599,))
        self.assertLess(time.process_time() - begun, 4)

    def test_deals_ahead_of_uses_that_tell_600(self):
        telling = Telling([RING, ring(3), each_misses_one(4)] + [clean_use(12)] * 5, 600)
        for at, use in enumerate(telling.uses[:-3]):
            for size in (0, 1, 599, 600):
                self.assertEqual((len(telling.dealt_at(at, size)), sum(telling.dealt_at(at, size))), (len(use), size))

    def test_lists_are_finished_by_other_uses(self):
        source = random.Random(35)
        for _ in range(25):
            one = some_telling(source, 2)
            others = [clean_use(2), RING, clean_use(3)]
            if one.start > count_messages(others):
                continue
            other = Telling(others, one.start)
            for path, left in paths_of(one):
                for place, message in enumerate(left):
                    told = ()
                    while len(told) < len(others):
                        told += (source.choice(other.uses[len(told)][other.word_said(told, place)]),)
                    self.assertEqual(left[other.message_of(told)], message)


class TreeTest(HeldTest):
    def test_trees_of_tellings(self):
        source = random.Random(36)
        for _ in range(60):
            telling = some_telling(source)
            tree = tree_of(telling)
            self.are_tuples(tree)
            self.assertIsNone(tree_fault(telling.uses, telling.many, telling.start, tree))
            self.assertIsNone(tree_fault(as_lists(telling.uses, False), telling.many, telling.start, tree))

    def test_told_trees(self):
        self.assertEqual(tree_of(Telling([], 1)), ())
        self.assertEqual(tree_of(Telling([clean_use(2)], 2)), ((0, 1), ((), ())))
        self.assertEqual(tree_of(Telling([clean_use(2)], 0)), ((), (None, None)))
        self.assertEqual(tree_of(Telling([((0,), (2,))], 2)), ((0, 1), ((), None, ())))

    def test_right_trees_with_words_in_any_order(self):
        self.assertIsNone(tree_fault([clean_use(3)], 2, 1, ((2, 0), ((), None, ()))))
        self.assertIsNone(tree_fault((), 3, 3, ()))
        self.assertIsNone(tree_fault([RING], 0, 1, ((), (None,) * 5)))
        two = ((1, 0), (((), (None, None)),))
        self.assertEqual(tree_fault([clean_use(2)], 2, 1, two), ("shape", ()))

    def test_4096_paths(self):
        telling = Telling([clean_use(2)] * 9, 512)
        begun = time.process_time()
        self.assertIsNone(tree_fault(telling.uses, 512, 1, tree_of(telling)))
        telling = Telling([DEAD] * 7, 1)
        self.assertIsNone(tree_fault(telling.uses, 1, 1, tree_of(telling)))
        telling = Telling([((0,),)] * 64, 1)
        self.assertIsNone(tree_fault(telling.uses, 1, 1, tree_of(telling)))
        self.assertLess(time.process_time() - begun, 4)

    def test_shapes_without_uses(self):
        for tree in (None, 0, [], "", {}, ((), ()), (0,), False):
            self.assertEqual(tree_fault([], 1, 1, tree), ("shape", ()))
            self.assertEqual(tree_fault([], 2, 1, tree), ("shape", ()))
        self.assertEqual(tree_fault([], 2, 1, ()), ("left", ()))

    def test_shapes_of_couples(self):
        right = ((0, 1), ((), ()))
        for tree in (
            None, 3, "ab", (), [(0, 1), ((), ())], ((0, 1),), right + ((),), ([0, 1], ((), ())), ((0, 1), [(), ()]),
            ((0,), ((), None)), ((0, 1, 1), ((), ())), ((0, 2), ((), ())), ((0, True), ((), ())), ((0, "1"), ((), ())),
            ((0, -1), ((), ())), ((0, 1.0), ((), ())), ((0, None), ((), ())), ((0, [1]), ((), ())), ((0, 1), ((),)),
            ((0, 1), ((), (), ())), ((0, 1), ((), None)), ((0, 0), ((), ())), ((0, 0), (None, ())), (0, ((), ())),
            ((0, 1), {0: (), 1: ()}),
        ):
            self.assertEqual(tree_fault([clean_use(2)], 2, 1, tree), ("shape", ()), tree)
        self.assertEqual(tree_fault([clean_use(2)], 2, 1, ((0, 1), ((), []))), ("shape", (1,)))
        self.assertEqual(tree_fault([clean_use(2)], 2, 1, ((0, 1), (0, []))), ("shape", (0,)))

    def test_left(self):
        self.assertEqual(tree_fault([clean_use(2)], 2, 1, ((1, 1), (None, ()))), ("left", (1,)))
        self.assertIsNone(tree_fault([clean_use(2)], 2, 2, ((1, 1), (None, ()))))
        self.assertEqual(tree_fault([DEAD], 2, 1, ((0, 1), ((), (), None))), ("left", (1,)))

    def test_the_first_fault_is_told(self):
        uses = [clean_use(2)] * 2
        good, bad = ((0, 1), ((), ())), ((0, 0), ((), None))
        self.assertIsNone(tree_fault(uses, 4, 1, ((0, 0, 1, 1), (good, good))))
        self.assertEqual(tree_fault(uses, 4, 1, ((0, 0, 1, 1), (bad, None))), ("shape", ()))
        self.assertEqual(tree_fault(uses, 4, 1, ((0, 0, 1, 1), (bad, 3))), ("left", (0, 0)))
        self.assertEqual(tree_fault(uses, 4, 1, ((0, 0, 1, 1), (good, list(good)))), ("shape", (1,)))
        self.assertEqual(tree_fault(uses, 4, 1, ((0, 1, 0, 1), (good, ((1, 0), ((), [])))),), ("shape", (1, 1)))
        self.assertEqual(tree_fault(uses, 5, 1, ((0, 0, 1, 1, 1), (good, good))), ("shape", (1,)))

    def test_spoiled_trees(self):
        source = random.Random(37)
        found = {}
        for _ in range(150):
            telling = some_telling(source)
            tree, path = spoiled(source, tree_of(telling))
            fault = tree_fault(telling.uses, telling.many, telling.start, tree)
            self.assertEqual(fault, ("shape", path))
            found[len(path)] = True
        self.assertEqual(sorted(found), [0, 1, 2, 3])

    def test_no_tree_of_more_messages(self):
        source = random.Random(38)
        uses = [ring(3), RING]
        greatest = count_messages(uses, 2)
        for _ in range(300):
            tree = some_tree(source, uses, tuple(range(greatest + 1)))
            self.assertEqual(tree_fault(uses, greatest + 1, 2, tree)[0], "left")


def spoiled(source, tree):
    """Return a tree with one fault of shape, and the outcomes that lead to it."""
    if tree == () or source.random() < 0.4:
        return source.choice((None if tree == () else (), list(tree), 3, tree + ((),))), ()
    words, branches = tree
    ways = [outcome for outcome, branch in enumerate(branches) if branch is not None]
    if not ways:
        return (words + (0,), branches), ()
    outcome = source.choice(ways)
    branch, path = spoiled(source, branches[outcome])
    if branch is None:
        return (words, branches[:outcome] + (None,) + branches[outcome + 1:]), ()
    return (words, branches[:outcome] + (branch,) + branches[outcome + 1:]), (outcome,) + path


def some_tree(source, uses, left):
    if not uses:
        return ()
    words = tuple(source.randrange(len(uses[0])) for _ in left)
    branches = []
    for outcome in range(1 + max(max(heard) for heard in uses[0])):
        stay = [message for message, word in zip(left, words) if outcome in uses[0][word]]
        branches.append(some_tree(source, uses[1:], stay) if stay else None)
    return (words, tuple(branches))
