"""Names, arguments and defaults are those of the interface, each in the file under which it is listed."""

import importlib
import inspect
import unittest

MODULES = {
    "ratios": [
        "is_whole(thing, low=None, high=None)", "is_ratio(thing)", "make_ratio(top, bottom=1)", "plus(one, other)",
        "minus(one, other)", "times(one, other)", "over(one, other)", "negative(one)", "size_of(one)",
        "power_of(one, exponent)", "compare(one, other)", "floor_of(one)", "sum_of(ratios)", "product_of(ratios)",
        "least_of(ratios)", "greatest_of(ratios)", "ratio_text(one)", "parse_ratio(text)",
    ],
    "plants": [
        "Plant(factors, pushes, starts)", "Plant.carried(self, mode, phase, ticks)",
        "Plant.growth(self, mode, phase, ticks)", "Plant.gathered(self, mode, phase, ticks)", "Plant.grows(self, mode)",
        "Plant.with_unit(self, mode, unit)", "Plant.with_sign(self, mode, phase)", "Plant.turned(self, phases)",
        "Plant.repeated(self, repeats)", "Plant.__eq__(self, other)",
    ],
    "channels": [
        "beside(one, other)", "Channel(outcomes, table)", "Channel.clean(words, period=1)",
        "Channel.heard(self, phase, word)", "Channel.common(self, phase, one, other)", "Channel.undominated(self, phase)",
        "Channel.kind_at(self, phase)", "Channel.parted_words(self, phase)", "Channel.turned(self, phases)",
        "Channel.repeated(self, repeats)", "Channel.renamed(self, words, outcomes)", "Channel.silenced(self)",
        "Channel.__eq__(self, other)",
    ],
    "lots": ["least_lots(lots, sensors)", "lies_within(group, lots)"],
    "worlds": [
        "Sensor(seen, channel)", "Sensor.__eq__(self, other)", "World(plant, sensors, lots=())",
        "World.__eq__(self, other)", "World.row_number(self, row)", "World.row_of(self, number)",
        "World.outside(self, lot)", "World.seers(self, mode)", "World.uses(self, sensor, phase, ticks)",
        "World.with_unit(self, mode, unit)", "World.with_sign(self, mode, phase)", "World.turned(self, phases)",
        "World.repeated(self, repeats)", "World.with_plant(self, plant)", "World.with_lots(self, lots)",
        "World.with_channel(self, sensor, channel)", "World.silenced(self, sensor)", "World.with_sensors(self, order)",
    ],
    "worldtext": ["world_text(world)", "parse_world(text)"],
    "simplex": [
        "solve_problem(rows, limits, gains)", "solution_fault(rows, limits, gains, solution)",
        "Solution(value, point, prices)", "Solution.__eq__(self, other)",
    ],
    "shares": [
        "find_share(use)", "number_of(use)", "number_of_uses(uses)", "share_fault(use, found)",
        "Share(share, number, mixture, weights)", "Share.__eq__(self, other)",
    ],
    "counts": [
        "largest_deal(use, limit)", "count_messages(uses, start=1)", "counts_behind(uses, start=1)", "list_size(uses)",
        "periods_needed(uses, base, start=1)",
    ],
    "trees": [
        "tree_of(telling)", "tree_fault(uses, many, start, tree)", "Telling(uses, many, start=1)",
        "Telling.dealt_at(self, at, size)", "Telling.size_after(self, at, size, outcome)",
        "Telling.place_after(self, at, size, place, outcome)", "Telling.messages_left(self, outcomes)",
        "Telling.word_said(self, outcomes, message)", "Telling.message_of(self, outcomes)",
    ],
    "verdicts": [
        "period_growth(world, modes)", "period_number(world, sensor)", "find_margin(world, lot, modes)",
        "list_tellers(world, lot, modes)", "list_watchers(world, first, second, mode)", "find_rate_bar(world)",
        "find_trust_bar(world)", "find_bar(world)", "walk_rate_bars(world)", "list_least_bars(world)",
        "bar_fault(world, bar)", "clearance_fault(world, clearance)", "find_clearance(world)",
        "RateBar(lot, modes, weights)", "TrustBar(mode, first, second)", "Clearance(mixtures, witnesses)",
        "RateBar.__eq__(self, other)", "TrustBar.__eq__(self, other)", "Clearance.__eq__(self, other)",
    ],
    "changes": [
        "add_sensor(world, sensor)", "add_lot(world, lot)", "drop_lot(world, lot)", "leave_out_mode(world, mode)",
        "clear_outcome(world, sensor, phase, word, outcome)", "put_factor(world, mode, phase, factor)",
    ],
    "digits": [
        "count_cells(counts, mode)", "count_told(counts, sensor)", "cell_digits(counts, mode, cell)",
        "join_cell(counts, mode, digits)", "sensor_message(counts, sensor, cells)",
        "message_digits(counts, sensor, message)", "join_cells(counts, messages)",
    ],
    "splits": [
        "block_growth(world, mode, periods)", "start_size(world, sensor)", "sensor_room(world, sensor, periods)",
        "is_listed(world, sensor)", "find_helper(world, guess, mode)", "list_tasks(world, guess, counts, helper)",
        "listing_periods(world, guess, counts)", "find_split(world, guess, blocks=8, idle=0)",
        "plan_splits(world, blocks=8, idle=0)", "split_fault(world, split)",
        "Split(guess, checked, idle, telling, listing, counts)", "Split.__eq__(self, other)",
    ],
    "forms": ["form_value(form, registers)", "is_form(thing, registers)", "make_form(constant, *parts)"],
    "programs": [
        "Controller(outcomes, modes, registers, rows, first=0)", "Controller.__len__(self)",
        "Controller.__eq__(self, other)", "Controller.find_move(self, state, outcomes)",
        "Coder(words, modes, rules, memories=1, first=0)", "Coder.__eq__(self, other)",
        "Coder.find_cuts(self, state, registers)", "Coder.find_places(self, state, registers, positions)",
        "Coder.find_reply(self, state, memory, places)", "Coder.say(self, state, registers, memory, positions)",
        "Program(controller, coders)", "Program.__len__(self)", "Program.__eq__(self, other)",
        "Program.with_move(self, state, place, move)", "Program.with_reply(self, sensor, state, place, reply)",
        "Program.rename_states(self, names)", "Program.rename_memories(self, sensor, names)",
    ],
    "fitting": ["still_program(world)", "delay_program(program, late)", "fit_fault(world, program)"],
    "programtext": ["text_of_program(program)", "program_of_text(text)"],
    "running": [
        "first_pose(world, program, start)", "play_tick(world, program, pose, tick)", "honest_words(program, pose)",
        "possible_outcomes(world, phase, words)", "run_fault(world, program, run)",
        "beyond(world, program, run, bound)", "greatest_sizes(world, program, run)", "walk(world, program, run)",
        "go_on(world, program, pose, liars, ticks)", "play_run(world, program, start, liars, picks)",
        "Pose(tick, positions, state, registers, memories)", "Pose.__eq__(self, other)", "Run(start, liars, ticks)",
        "Run.__eq__(self, other)",
    ],
    "boxes": [
        "volume_of(pieces)", "shadow_of(pieces, axis)", "overlap_of(pieces)", "piece_at(pieces, point)",
        "cut_pieces(pieces, axis, cuts)", "widened_pieces(pieces, axis, by)", "moved_pieces(pieces, factors, shifts)",
        "pull_back(sides, axis, by, point)", "Piece(sides, memories)", "Piece.__eq__(self, other)",
    ],
    "clouds": [
        "first_cloud(world, program, modes, liars)", "next_cloud(world, program, cloud, outcomes)",
        "kept_volumes(world, program, cloud)", "greatest_row(world, program, cloud)",
        "trace_run(world, program, clouds, point)",
    ],
    "twins": ["twin_gap(world, bar, ticks)", "twin_ticks(world, bar, bound)", "twin_runs(world, program, bar, ticks)"],
    "driving": ["ticks_needed(world, bar, bound)", "drive_out(world, program, bar, bound)"],
    "blocks": [
        "block_ticks(world, split)", "count_paths(world, split)", "list_checkers(world, split)",
        "find_cell(counts, mode, half, position)", "cell_middle(counts, mode, half, cell)",
        "told_middle(world, split, mode, half, cell, tick)", "told_half(world, split, mode, half, tick)",
        "find_extra(world, split, mode)", "next_half(world, split, mode, half, struck)", "rest_half(world, split, mode)",
        "guess_halves(world, splits)", "told_bounds(world, splits)",
    ],
    "compiling": [
        "compile_splits(world, splits)", "compile_world(world, blocks=8, idle=0)",
        "Compiled(world, splits, program, places)", "Compiled.__eq__(self, other)", "Compiled.find_place(self, state)",
        "Compiled.block_state(self, place)", "Compiled.halves_at(self, state, registers, ticks=0)",
    ],
    "deeds": [
        "quiet_fault(program)", "find_offset(world, mode, number)", "read_number(world, mode, moved)",
        "first_deeds(world, program, start)", "deed_words(world, program, pose)",
        "play_deed(world, program, pose, tick)", "walk_deeds(world, program, run)", "plain_pose(pose)",
        "deed_bounds(world, bounds)", "DeedPose(tick, positions, offsets, state, registers, copies)",
        "DeedPose.__eq__(self, other)",
    ],
    "leastbound": [
        "check_link(world)", "link_numbers(world)", "told_lengths(world, ticks)", "late_lengths(world, late, ticks)",
        "find_least(world, late=0)", "greatest_late(world, bound)", "fewest_words(plant, bound)",
        "Least(bound, lengths, limits, reached)", "Least.__eq__(self, other)",
    ],
    "leastprogram": ["least_program(world, late=0)"],
    "keeping": [
        "keeping_fault(world, program, keeping)", "keepings_fault(world, program, keepings)", "keeping_bound(keeping)",
        "leaving_tick(world, program, keeping, run)", "Keeping(lot, lines)", "Keeping.__eq__(self, other)",
        "KeepFault(what, key)", "KeepFault.__eq__(self, other)",
    ],
    "fitkeeping": ["fit_keeping(world, program, lot, anchors=())"],
    "renting": [
        "check_group(world, group)", "silenced_world(world, group)", "hired_world(world, group)",
        "does_hold(world, group)", "check_prices(world, prices)", "group_price(world, prices, group)",
        "cheapest_group(world, prices)", "hiring_fault(world, prices, hiring)", "least_groups(world)",
        "needed_sensors(world)", "Hiring(group, price, clearance, barred)", "Hiring.__eq__(self, other)",
    ],
    "failing": [
        "least_silences(world)", "liars_world(world, many)", "most_liars(world)", "trade_of(world)",
        "greatest_families(world)", "Borne(many, bar)", "Borne.__eq__(self, other)",
    ],
    "stories": ["Story(world, start, liars, deeds)", "Story.__eq__(self, other)"],
    "desk": [
        "retell_story(story)", "Leg(world, blocks, run)", "Leg.__eq__(self, other)", "Desk(world, start, liars=())",
        "Desk.__eq__(self, other)", "Desk.take_deed(self, deed)", "Desk.tell_story(self)", "Desk.tried(self, call)",
    ],
    "storytext": ["story_text(story)", "parse_story(text)"],
    "drivebelow": ["ticks_below(world, bound, late=0)", "drive_below(world, program, bound, late=0)"],
}


class InterfaceTest(unittest.TestCase):
    def test_names_and_arguments(self):
        for file, rows in MODULES.items():
            module = importlib.import_module("farheld." + file)
            for row in rows:
                name, arguments = row.split("(", 1)
                thing = module
                for part in name.split("."):
                    thing = vars(thing)[part]
                if isinstance(thing, staticmethod):
                    thing = thing.__func__
                self.assertEqual(thing.__module__, "farheld." + file, row)
                self.assertEqual(str(inspect.signature(thing)), "(" + arguments, row)

    def test_constants(self):
        counts, ratios = importlib.import_module("farheld.counts"), importlib.import_module("farheld.ratios")
        self.assertEqual((counts.MOST, ratios.ZERO, ratios.ONE, ratios.HALF), (600, (0, 1), (1, 1), (1, 2)))

    def test_channel_clean_is_static(self):
        channels = importlib.import_module("farheld.channels")
        self.assertIsInstance(vars(channels.Channel)["clean"], staticmethod)

    def test_generators(self):
        verdicts = importlib.import_module("farheld.verdicts")
        self.assertTrue(inspect.isgeneratorfunction(verdicts.walk_rate_bars))
        running = importlib.import_module("farheld.running")
        self.assertTrue(inspect.isgeneratorfunction(running.possible_outcomes))

    def test_split_periods_is_a_property_and_clouds_are_a_class(self):
        splits = importlib.import_module("farheld.splits")
        self.assertIsInstance(vars(splits.Split)["periods"], property)
        clouds = importlib.import_module("farheld.clouds")
        self.assertEqual(clouds.Cloud.__module__, "farheld.clouds")


if __name__ == "__main__":
    unittest.main()
