"""Keepings by the plain words of the document: every way by itself, forms as rows of fractions."""

import itertools
from fractions import Fraction

from farheld.errors import NotClosed, NotDone
from farheld.fitting import fit_fault
from farheld.keeping import KeepFault
from farheld.ratios import make_ratio


def ratio_of(fraction):
    return make_ratio(fraction.numerator, fraction.denominator)


class Form:
    """A constant and a multiple for each register."""

    def __init__(self, constant, multiples):
        self.constant, self.multiples = constant, list(multiples)

    def combined(self, by, other, other_by):
        multiples = [by * one + other_by * two for one, two in zip(self.multiples, other.multiples)]
        return Form(by * self.constant + other_by * other.constant, multiples)

    def greatest(self, spans):
        return self.constant + sum(max(by * low, by * high) for by, (low, high) in zip(self.multiples, spans))

    def least(self, spans):
        return self.constant + sum(min(by * low, by * high) for by, (low, high) in zip(self.multiples, spans))

    def is_at_most(self, other, spans):
        return self.combined(1, other, -1).greatest(spans) <= 0

    def replaced(self, nexts):
        told = Form(self.constant, [0] * len(self.multiples))
        for by, form in zip(self.multiples, nexts):
            told = told.combined(1, form, by)
        return told

    def value(self, registers):
        return self.constant + sum(by * one for by, one in zip(self.multiples, registers))

    def told(self):
        parts = [(at, ratio_of(by)) for at, by in enumerate(self.multiples) if by]
        return (ratio_of(self.constant), tuple(parts))


def form_of(told, registers):
    multiples = [Fraction(0)] * registers
    for register, by in told[1]:
        multiples[register] = Fraction(*by)
    return Form(Fraction(*told[0]), multiples)


def constant(value, registers):
    return Form(value, [Fraction(0)] * registers)


class Line:
    def __init__(self, told):
        self.key, spans, ends = told
        self.spans = [(Fraction(*low), Fraction(*high)) for low, high in spans]
        self.ends = [(form_of(low, len(spans)), form_of(high, len(spans))) for low, high in ends]

    def told(self):
        spans = tuple((ratio_of(low), ratio_of(high)) for low, high in self.spans)
        return (self.key, spans, tuple((low.told(), high.told()) for low, high in self.ends))


class Plain:
    def __init__(self, world, program, lot):
        self.world, self.program, self.lot = world, program, lot
        self.registers = len(program.controller.registers)

    def start_key(self):
        memories = [0 if at in self.lot else coder.first for at, coder in enumerate(self.program.coders)]
        return (0, self.program.controller.first, tuple(memories))

    def ways(self, line):
        """Yield (next key, next forms, step forms, lists) for every way in the order of the document."""
        (phase, state, memories), world, program = line.key, self.world, self.program
        modes = range(world.plant.modes)
        looks = []
        for sensor, coder in enumerate(program.coders):
            if sensor not in self.lot:
                looks.extend((sensor, mode, [form_of(one, self.registers) for one in thresholds]) for mode, thresholds in coder.rules[state][1])
        for places in itertools.product(*[range(len(thresholds) + 1) for _, _, thresholds in looks]):
            lows = [[line.ends[mode][0]] for mode in modes]
            highs = [[(line.ends[mode][1], False)] for mode in modes]
            if not self.are_possible(line, looks, places, lows, highs):
                continue
            behind, heard = [], []
            for sensor, coder in enumerate(program.coders):
                row = world.sensors[sensor].channel.table[phase]
                if sensor in self.lot:
                    behind.append(0)
                    heard.append(sorted({outcome for outcomes in row for outcome in outcomes}))
                    continue
                own = [place for place, look in zip(places, looks) if look[0] == sensor]
                word, memory = coder.find_reply(state, memories[sensor], own)
                behind.append(memory)
                heard.append(row[word])
            for outcomes in itertools.product(*heard):
                move = program.controller.find_move(state, outcomes)
                yield ((phase + 1) % world.period, move[0], tuple(behind)), move, lows, [[form for form, _ in row] for row in highs]

    def are_possible(self, line, looks, places, lows, highs):
        """Tell whether places are possible, look by look, and put the thresholds into the lists."""
        for (_, mode, thresholds), place in zip(looks, places):
            if not all(one.is_at_most(two, line.spans) for one, two in zip(thresholds, thresholds[1:])):
                continue
            if place > 0:
                for high, is_threshold in highs[mode]:
                    greatest = high.combined(1, thresholds[place - 1], -1).greatest(line.spans)
                    if greatest < 0 or greatest == 0 and is_threshold:
                        return False
            if place < len(thresholds):
                if any(thresholds[place].is_at_most(low, line.spans) for low in lows[mode]):
                    return False
                highs[mode].append((thresholds[place], True))
            if place > 0:
                lows[mode].append(thresholds[place - 1])
        return True

    def nexts(self, move):
        told = []
        for register in range(self.registers):
            told.append(Form(Fraction(0), [Fraction(int(at == register)) for at in range(self.registers)]))
        for register, form in move[1]:
            told[register] = form_of(form, self.registers)
        return told

    def moved(self, line, mode, move, lows, highs):
        """Return the lists of a * f + u - d and a * f + u + d."""
        factor = Fraction(*self.world.plant.factors[mode][line.key[0]])
        push = Fraction(*self.world.plant.pushes[mode])
        step = form_of(dict(move[2]).get(mode, ((0, 1), ())), self.registers)
        if factor < 0:
            lows, highs = highs, lows
        low = [form.combined(factor, step, 1).combined(1, constant(push, self.registers), -1) for form in lows]
        return low, [form.combined(factor, step, 1).combined(1, constant(push, self.registers), 1) for form in highs]

    def takes_in(self, line, way, other):
        _, move, lows, highs = way
        nexts = self.nexts(move)
        for form, (low, high) in zip(nexts, other.spans):
            if form.least(line.spans) < low or form.greatest(line.spans) > high:
                return False
        for mode, (low_end, high_end) in enumerate(other.ends):
            low, high = self.moved(line, mode, move, lows[mode], highs[mode])
            if not any(form.is_at_most(high_end.replaced(nexts), line.spans) for form in high):
                return False
            if not any(low_end.replaced(nexts).is_at_most(form, line.spans) for form in low):
                return False
        return True

    def image(self, line, way):
        key, move, lows, highs = way
        told = Line((key, (), ()))
        told.spans = [(form.least(line.spans), form.greatest(line.spans)) for form in self.nexts(move)]
        changed = [register for register, _ in move[1]]
        for mode in range(self.world.plant.modes):
            low, high = self.moved(line, mode, move, lows[mode], highs[mode])
            most = min(form.greatest(line.spans) for form in high)
            high = next(form for form in high if form.greatest(line.spans) == most)
            least = max(form.least(line.spans) for form in low)
            low = next(form for form in low if form.least(line.spans) == least)
            if any(high.multiples[register] for register in changed):
                high = constant(most, self.registers)
            if any(low.multiples[register] for register in changed):
                low = constant(least, self.registers)
            told.ends.append((low, high))
        return told

    def widened(self, old, image):
        told = Line((old.key, (), ()))
        told.spans = [(min(low, least), max(high, most)) for (low, high), (least, most) in zip(old.spans, image.spans)]
        for (low, high), (other_low, other_high) in zip(old.ends, image.ends):
            if other_high.is_at_most(high, told.spans):
                top = high
            elif high.is_at_most(other_high, told.spans):
                top = other_high
            else:
                top = constant(max(high.greatest(told.spans), other_high.greatest(told.spans)), self.registers)
            if low.is_at_most(other_low, told.spans):
                end = low
            elif other_low.is_at_most(low, told.spans):
                end = other_low
            else:
                end = constant(min(low.least(told.spans), other_low.least(told.spans)), self.registers)
            told.ends.append((end, top))
        return told


def plain_fault(world, program, keeping):
    """Return what keeping_fault must return."""
    if fit_fault(world, program) is not None:
        return KeepFault("program", None)
    lot = keeping.lot
    if max(lot, default=-1) >= len(world.sensors) or not any(set(lot) <= set(one) for one in world.lots):
        return KeepFault("lot", None)
    controller, plain = program.controller, Plain(world, program, lot)
    for (phase, state, memories), spans, ends in keeping.lines:
        sound = phase < world.period and state < len(program) and len(memories) == len(world.sensors)
        sound = sound and len(spans) == len(controller.registers) and len(ends) == world.plant.modes
        for at, memory in enumerate(memories):
            sound = sound and memory < (1 if at in lot else program.coders[at].memories)
        if not sound:
            return KeepFault("line", (phase, state, memories))
    lines = {line[0]: Line(line) for line in keeping.lines}
    start, first = plain.start_key(), [Fraction(*one) for one in controller.registers]
    if start not in lines or not all(low <= one <= high for one, (low, high) in zip(first, lines[start].spans)):
        return KeepFault("start", start)
    for (low, high), end in zip(lines[start].ends, world.plant.starts):
        if low.value(first) > -Fraction(*end) or high.value(first) < Fraction(*end):
            return KeepFault("start", start)
    for key in sorted(lines):
        ways = list(plain.ways(lines[key]))
        if any(way[0] not in lines for way in ways):
            return KeepFault("lacking", key)
        if not all(plain.takes_in(lines[key], way, lines[way[0]]) for way in ways):
            return KeepFault("open", key)
    return None


def plain_fit(world, program, lot, anchors, most=400, is_cut=False):
    """Return the lines that fit_keeping must return, ascending by key; those behind so many takes if it is cut."""
    plain = Plain(world, program, lot)
    lines = {line[0]: Line(line) for line in sorted(anchors)}
    anchored, waiting = set(lines), sorted(lines)
    start = plain.start_key()
    if start not in lines:
        lines[start] = Line((start, [(one, one) for one in program.controller.registers], ()))
        for top, bottom in world.plant.starts:
            end = constant(Fraction(top, bottom), plain.registers)
            lines[start].ends.append((end.combined(-1, end, 0), end))
        waiting.append(start)
    taken = 0
    while waiting:
        if taken == most and is_cut:
            break
        if taken == most:
            raise NotDone(most)
        taken += 1
        line = lines[waiting.pop(0)]
        for way in plain.ways(line):
            old = lines.get(way[0])
            if old is not None and plain.takes_in(line, way, old):
                continue
            if way[0] in anchored:
                raise NotClosed(way[0])
            image = plain.image(line, way)
            lines[way[0]] = image if old is None else plain.widened(old, image)
            if way[0] not in waiting:
                waiting.append(way[0])
    return tuple(lines[key].told() for key in sorted(lines))
