from farheld.channels import Channel, beside
from farheld.errors import BadChannel, BadOrder, BadPeriod, BadPhase, BadTimes, NoWord
from tests.helpers import DEAD, NO_SEQUENCES, NO_WHOLES, RING, HeldTest, as_lists, clean_use, ring

TABLE = (((0,), (1, 2), (0, 1)), ((0, 1), (1, 2), (1,)))


def fault(what, phase=0, word=0):
    return {"what": what, "phase": phase, "word": word}


class ChannelTest(HeldTest):
    def setUp(self):
        self.channel = Channel(3, TABLE)

    def test_attributes(self):
        for made in (self.channel, Channel(3, as_lists(TABLE, False))):
            self.assertEqual((made.outcomes, made.table, made.words, made.period), (3, TABLE, 3, 2))
            self.are_tuples(made.table)
            self.assertEqual(made, self.channel)

    def test_what_is_passed_in_is_neither_changed_nor_kept(self):
        table = as_lists(TABLE, False)
        channel = Channel(3, table)
        self.assertEqual(table, as_lists(TABLE, False))
        table[0][0].append(2)
        table[1].pop()
        table.clear()
        self.assertEqual(channel, self.channel)

    def test_equality(self):
        self.assertFalse(self.channel != Channel(3, TABLE))
        for other in (Channel(4, TABLE), Channel(3, TABLE[:1]), Channel(3, TABLE[::-1]), TABLE, None):
            self.assertFalse(self.channel == other)
            self.assertTrue(self.channel != other)

    def test_greatest_counts(self):
        channel = Channel(12, [[list(range(12))] * 12] * 4)
        self.assertEqual((channel.words, channel.period, channel.kind_at(3)), (12, 4, "dead"))
        self.assertEqual(Channel(1, [[[0]]]).table, (((0,),),))

    def test_wrong_outcomes_and_phases(self):
        for thing in NO_WHOLES + (0, 13, -1):
            self.raises(BadChannel, fault("outcomes"), Channel, thing, None)
        for thing in NO_SEQUENCES + ([], (), [[[0]]] * 5):
            self.raises(BadChannel, fault("phases"), Channel, 1, thing)

    def test_wrong_words(self):
        for thing in NO_SEQUENCES + ([], (), [[0]] * 13):
            self.raises(BadChannel, fault("words"), Channel, 1, [thing])
            self.raises(BadChannel, fault("words", 1), Channel, 1, [[[0]], thing])
        self.raises(BadChannel, fault("words", 1), Channel, 1, [[[0]], [[0], [0]]])
        self.raises(BadChannel, fault("words", 2), Channel, 2, [[[0], [1]], [[0], [1]], [[0]]])

    def test_wrong_rows(self):
        for thing in NO_SEQUENCES + ([], (), [2], [1, 0], [0, 0], [-1], [True], [False, 1], ["0"], [0, 1, 2]):
            self.raises(BadChannel, fault("row", 0, 1), Channel, 2, [[[0], thing, 9], 7])
            self.raises(BadChannel, fault("row", 1, 2), Channel, 2, [[[0]] * 3, [[0], [1], thing]])

    def test_the_first_fault_is_told(self):
        self.raises(BadChannel, fault("row", 0, 1), Channel, 2, [[[0], [2]], None])
        self.raises(BadChannel, fault("words", 1), Channel, 2, [[[0], [1]], [[9]], [[9], [9]]])

    def test_clean(self):
        self.assertEqual(Channel.clean(3), Channel(3, [clean_use(3)]))
        self.assertEqual(Channel.clean(12, 4), Channel(12, [clean_use(12)] * 4))
        self.assertEqual(Channel.clean(words=1, period=2).table, (((0,),), ((0,),)))
        for thing in NO_WHOLES + (0, 13):
            self.raises(BadChannel, fault("outcomes"), Channel.clean, thing, 0)
        for thing in NO_WHOLES + (0, 5):
            self.raises(BadChannel, fault("phases"), Channel.clean, 2, thing)

    def test_heard(self):
        self.assertEqual([self.channel.heard(0, word) for word in range(3)], list(TABLE[0]))
        self.assertEqual(self.channel.heard(7, 1), (1, 2))
        self.assertEqual(self.channel.heard(10 ** 200, 2), (0, 1))
        for thing in NO_WHOLES + (-1,):
            self.raises(BadPhase, {"phase": thing}, self.channel.heard, thing, -1)
            self.raises(NoWord, {"word": thing}, self.channel.heard, 0, thing)
        self.raises(NoWord, {"word": 3}, self.channel.heard, 0, 3)

    def test_common(self):
        self.assertEqual(self.channel.common(0, 0, 1), ())
        self.assertEqual(self.channel.common(0, 1, 2), (1,))
        self.assertEqual(self.channel.common(3, 1, 1), (1, 2))
        for thing in NO_WHOLES + (-1,):
            self.raises(BadPhase, {"phase": thing}, self.channel.common, thing, 9, 9)
            self.raises(NoWord, {"word": thing}, self.channel.common, 0, thing, 9)
            self.raises(NoWord, {"word": thing}, self.channel.common, 0, 2, thing)

    def test_kinds(self):
        self.assertEqual([self.channel.kind_at(phase) for phase in range(4)], ["solid", "dead", "solid", "dead"])
        self.assertEqual(Channel(3, [DEAD]).kind_at(0), "dead")
        self.assertEqual(Channel(3, [ring(3)]).kind_at(0), "hazy")
        self.assertEqual(Channel(5, [RING]).kind_at(0), "solid")
        self.assertEqual(Channel(2, [[[0, 1]]]).kind_at(5), "dead")
        self.assertEqual([self.channel.parted_words(phase) for phase in range(3)], [(0, 1), None, (0, 1)])
        self.assertEqual(Channel(5, [RING]).parted_words(0), (0, 2))
        self.assertIsNone(Channel(3, [ring(3)]).parted_words(0))
        for thing in NO_WHOLES + (-1,):
            for call in (self.channel.kind_at, self.channel.parted_words, self.channel.undominated):
                self.raises(BadPhase, {"phase": thing}, call, thing)

    def test_undominated(self):
        channel = Channel(4, [[[0, 1], [0], [0], [1, 2, 3], [2, 3], [0, 1, 2, 3], [2, 3]]])
        self.assertEqual(channel.undominated(0), (1, 4))
        self.assertEqual(self.channel.undominated(2), (0, 1))
        self.assertEqual(self.channel.undominated(1), (2,))
        self.assertEqual(Channel(5, [RING]).undominated(9), (0, 1, 2, 3, 4))
        self.assertEqual(Channel(2, [[[0, 1]] * 3]).undominated(0), (0,))

    def test_turned_and_repeated(self):
        self.assertEqual(self.channel.turned(3), Channel(3, TABLE[::-1]))
        self.assertEqual(self.channel.turned(0), self.channel)
        self.assertEqual(self.channel.repeated(2), Channel(3, TABLE * 2))
        for thing in NO_WHOLES + (-1,):
            self.raises(BadPhase, {"phase": thing}, self.channel.turned, thing)
        for thing in NO_WHOLES + (-1, 0, 3):
            self.raises(BadTimes, {"repeats": thing}, self.channel.repeated, thing)

    def test_renamed(self):
        made = self.channel.renamed([1, 2, 0], (2, 0, 1))
        # Old outcome 2 is the new 0, old 0 the new 1, old 1 the new 2.
        self.assertEqual(made.table, (((0, 2), (1, 2), (1,)), ((0, 2), (2,), (1, 2))))
        self.are_tuples(made.table)
        self.assertEqual(self.channel.renamed((0, 1, 2), (0, 1, 2)), self.channel)
        self.assertEqual(made.renamed((2, 0, 1), (1, 2, 0)), self.channel)
        for thing in NO_SEQUENCES + ([], [0, 1], [0, 1, 1], [0, 1, 3], [False, 1, 2], [0, 1, 2, 3], [0, 1, "2"]):
            self.raises(BadOrder, {"what": "words"}, self.channel.renamed, thing, thing)
            self.raises(BadOrder, {"what": "outcomes"}, self.channel.renamed, (2, 1, 0), thing)

    def test_silenced(self):
        self.assertEqual(self.channel.silenced(), Channel(3, [[[0, 1, 2]] * 3] * 2))

    def test_beside(self):
        one = Channel(2, [[[0], [0, 1]]])
        other = Channel(3, [[[0, 2], [1]]])
        made = beside(one, other)
        self.assertEqual(made.outcomes, 6)
        self.assertEqual(made.table, (((0, 2), (1,), (0, 2, 3, 5), (1, 4)),))
        self.are_tuples(made.table)
        self.assertEqual(beside(Channel.clean(3, 2), Channel.clean(4, 2)), Channel.clean(12, 2))

    def test_beside_refuses(self):
        self.raises(BadPeriod, {"one": 1, "other": 2}, beside, Channel.clean(4), Channel.clean(4, 2))
        self.raises(BadChannel, fault("outcomes"), beside, Channel.clean(4), Channel.clean(4))
        self.raises(BadChannel, fault("words"), beside, Channel(1, [[[0]] * 5]), Channel(2, [[[0]] * 3]))
        self.assertEqual(beside(Channel(1, [[[0]] * 4]), Channel(1, [[[0]] * 3])).words, 12)
