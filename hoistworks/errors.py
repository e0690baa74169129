"""The refusals of the program: one class for each, so that each can be taken by its name."""


# Any refusal.
class HoistError(ValueError):
    pass


# What was told is no hoist.
class NoHoist(HoistError):
    pass


# The hoist has no such rope.
class NoRope(HoistError):
    pass


# The hoist has no such body.
class NoBody(HoistError):
    pass


# The hoist sinks, so that no pulls hold it.
class Sinks(HoistError):
    pass


# Two hoists together have more bodies or ropes than one hoist may have.
class TooMany(HoistError):
    pass


# The text writes no hoist.
class BadText(HoistError):
    pass
