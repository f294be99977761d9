"""Names, arguments and defaults are those of the interface, each in the file under which it is listed."""

import importlib
import inspect
import unittest

MODULES = {
    "ratios": [
        "is_whole(thing, low=None, high=None)", "is_ratio(thing)", "make_ratio(top, bottom=1)", "plus(one, other)",
        "minus(one, other)", "times(one, other)", "over(one, other)", "negative(one)", "size_of(one)",
        "power_of(one, exponent)", "compare(one, other)", "floor_of(one)", "sum_of(ratios)", "product_of(ratios)",
        "least_of(ratios)", "greatest_of(ratios)", "ratio_text(one)", "parse_ratio(text)",
    ],
    "plants": [
        "Plant(factors, pushes, starts)", "Plant.carried(self, mode, phase, ticks)",
        "Plant.growth(self, mode, phase, ticks)", "Plant.gathered(self, mode, phase, ticks)", "Plant.grows(self, mode)",
        "Plant.with_unit(self, mode, unit)", "Plant.with_sign(self, mode, phase)", "Plant.turned(self, phases)",
        "Plant.repeated(self, repeats)", "Plant.__eq__(self, other)",
    ],
    "channels": [
        "beside(one, other)", "Channel(outcomes, table)", "Channel.clean(words, period=1)",
        "Channel.heard(self, phase, word)", "Channel.common(self, phase, one, other)", "Channel.undominated(self, phase)",
        "Channel.kind_at(self, phase)", "Channel.parted_words(self, phase)", "Channel.turned(self, phases)",
        "Channel.repeated(self, repeats)", "Channel.renamed(self, words, outcomes)", "Channel.silenced(self)",
        "Channel.__eq__(self, other)",
    ],
    "lots": ["least_lots(lots, sensors)", "lies_within(group, lots)"],
    "worlds": [
        "Sensor(seen, channel)", "Sensor.__eq__(self, other)", "World(plant, sensors, lots=())",
        "World.__eq__(self, other)", "World.row_number(self, row)", "World.row_of(self, number)",
        "World.outside(self, lot)", "World.seers(self, mode)", "World.uses(self, sensor, phase, ticks)",
        "World.with_unit(self, mode, unit)", "World.with_sign(self, mode, phase)", "World.turned(self, phases)",
        "World.repeated(self, repeats)", "World.with_plant(self, plant)", "World.with_lots(self, lots)",
        "World.with_channel(self, sensor, channel)", "World.silenced(self, sensor)", "World.with_sensors(self, order)",
    ],
    "worldtext": ["world_text(world)", "parse_world(text)"],
    "simplex": [
        "solve_problem(rows, limits, gains)", "solution_fault(rows, limits, gains, solution)",
        "Solution(value, point, prices)", "Solution.__eq__(self, other)",
    ],
    "shares": [
        "find_share(use)", "number_of(use)", "number_of_uses(uses)", "share_fault(use, found)",
        "Share(share, number, mixture, weights)", "Share.__eq__(self, other)",
    ],
    "counts": [
        "largest_deal(use, limit)", "count_messages(uses, start=1)", "counts_behind(uses, start=1)", "list_size(uses)",
        "periods_needed(uses, base, start=1)",
    ],
    "trees": [
        "tree_of(telling)", "tree_fault(uses, many, start, tree)", "Telling(uses, many, start=1)",
        "Telling.dealt_at(self, at, size)", "Telling.size_after(self, at, size, outcome)",
        "Telling.place_after(self, at, size, place, outcome)", "Telling.messages_left(self, outcomes)",
        "Telling.word_said(self, outcomes, message)", "Telling.message_of(self, outcomes)",
    ],
    "verdicts": [
        "period_growth(world, modes)", "period_number(world, sensor)", "find_margin(world, lot, modes)",
        "list_tellers(world, lot, modes)", "list_watchers(world, first, second, mode)", "find_rate_bar(world)",
        "find_trust_bar(world)", "find_bar(world)", "walk_rate_bars(world)", "list_least_bars(world)",
        "bar_fault(world, bar)", "clearance_fault(world, clearance)", "find_clearance(world)",
        "RateBar(lot, modes, weights)", "TrustBar(mode, first, second)", "Clearance(mixtures, witnesses)",
        "RateBar.__eq__(self, other)", "TrustBar.__eq__(self, other)", "Clearance.__eq__(self, other)",
    ],
}


class InterfaceTest(unittest.TestCase):
    def test_names_and_arguments(self):
        for file, rows in MODULES.items():
            module = importlib.import_module("farheld." + file)
            for row in rows:
                name, arguments = row.split("(", 1)
                thing = module
                for part in name.split("."):
                    thing = vars(thing)[part]
                if isinstance(thing, staticmethod):
                    thing = thing.__func__
                self.assertEqual(thing.__module__, "farheld." + file, row)
                self.assertEqual(str(inspect.signature(thing)), "(" + arguments, row)

    def test_constants(self):
        counts, ratios = importlib.import_module("farheld.counts"), importlib.import_module("farheld.ratios")
        self.assertEqual((counts.MOST, ratios.ZERO, ratios.ONE, ratios.HALF), (600, (0, 1), (1, 1), (1, 2)))

    def test_channel_clean_is_static(self):
        channels = importlib.import_module("farheld.channels")
        self.assertIsInstance(vars(channels.Channel)["clean"], staticmethod)

    def test_walk_rate_bars_is_a_generator(self):
        verdicts = importlib.import_module("farheld.verdicts")
        self.assertTrue(inspect.isgeneratorfunction(verdicts.walk_rate_bars))


if __name__ == "__main__":
    unittest.main()
