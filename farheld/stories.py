"""Stories: what a desk began with, and the deeds that stand."""


class Story:
    """The first world, the first positions, the liars and the deeds of a desk."""

    def __init__(self, world, start, liars, deeds):
        self.world = world
        self.start = start
        self.liars = liars
        self.deeds = deeds

    def __eq__(self, other):
        if not isinstance(other, Story):
            return False
        if self.world != other.world or self.start != other.start:
            return False
        return self.liars == other.liars and self.deeds == other.deeds
