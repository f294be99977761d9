"""Steps: what happens to a cloud in its tick if a row of outcomes comes."""

from farheld.boxes import Piece, moved_side
from farheld.ratios import make_ratio, negative, plus, times
from farheld.running import inputs_of, registers_behind


class Step:
    """What happens to a cloud in its tick if a row of outcomes comes."""

    def __init__(self, world, program, cloud, outcomes, sights):
        self.cloud = cloud
        self._sights = sights
        self.move = program.controller.find_move(cloud.state, outcomes)
        self.inputs = inputs_of(self.move, cloud.registers, world.plant.modes)
        phase = cloud.tick % world.period
        self.factors = [row[phase] for row in world.plant.factors]
        tables = [sensor.channel.table[phase] for sensor in world.sensors]
        self.can_come = [[outcome in heard for heard in table] for outcome, table in zip(outcomes, tables)]

    def images(self):
        """Return the pieces into which all states that are kept are moved, ahead of any pushes."""
        told = []
        for piece in self.cloud.pieces:
            told.extend([Piece(self.moved(sides), memories) for sides, memories in self.parts_of(piece)])
        return told

    def next_registers(self):
        """Return the registers behind the move."""
        return registers_behind(self.move, self.cloud.registers)

    def parts_of(self, piece):
        """Return (part of the sides, memories behind) of a piece for the states that are kept."""
        parts = [(piece.sides, ())]
        for at, sight in enumerate(self._sights):
            can_come = self.can_come[at]
            if sight is None:
                parts = [(sides, told + (0,)) for sides, told in parts if can_come[0]]
                continue
            memory = piece.memories[at]
            found = []
            for sides, told in parts:
                for behind, part in sight.parts_of(sides, memory, _next_memory_by(can_come)):
                    found.append((part, told + (behind,)))
            parts = found
        return parts

    def moved(self, sides):
        """Return the image of sides, ahead of any pushes."""
        told = []
        for mode, side in zip(self.cloud.modes, sides):
            told.append(moved_side(side, self.factors[mode], self.inputs[mode]))
        return tuple(told)

    def other_positions(self):
        """Return the next positions of the modes that are not followed."""
        told = []
        for mode, one in enumerate(self.cloud.positions):
            told.append(None if one is None else plus(times(one, self.factors[mode]), self.inputs[mode]))
        return tuple(told)

    def sources_of(self, sides):
        """Return the sides whose image some sides are."""
        told = []
        for mode, side in zip(self.cloud.modes, sides):
            top, bottom = self.factors[mode]
            back = make_ratio(bottom, top)
            told.append(moved_side(side, back, negative(times(self.inputs[mode], back))))
        return told


def _next_memory_by(can_come):
    """Return the label of replies: the memory behind, None if the outcome cannot come of the word."""
    def label_of(reply, memory):
        word, behind = reply
        if not can_come[word]:
            return None
        return memory if behind is None else behind
    return label_of
