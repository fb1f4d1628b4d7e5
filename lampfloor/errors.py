"""The refusals: each has a class of its own, and LampError takes them all."""


class LampError(ValueError):
    pass


class OffFloor(LampError):
    pass


class InWall(LampError):
    pass


class NotWall(LampError):
    pass


class NoStep(LampError):
    pass


class NoWay(LampError):
    pass


class TooMany(LampError):
    pass


class NoText(LampError):
    pass
