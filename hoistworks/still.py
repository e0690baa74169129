"""Whether a hoist hangs still or sinks, the least pull of a rope, and the ropes that can be spared."""

from hoistworks.bearing import Bearing
from hoistworks.errors import Sinks
from hoistworks.hoist import check_rope, without


def judged(hoist):
    bearing = Bearing(hoist)
    if bearing.sinks():
        return ("sinks", bearing.motion())
    return ("still", bearing.pulls())


def least_pull(hoist, rope):
    check_rope(hoist, rope)
    bearing = still_bearing(hoist)
    bearing.lessen(rope)
    return (bearing.pulls(), bearing.motion())


def can_be_spared(hoist):
    still_bearing(hoist)
    return [rope for rope in range(hoist.many_ropes()) if not Bearing(without(hoist, rope)).sinks()]


def still_bearing(hoist):
    bearing = Bearing(hoist)
    if bearing.sinks():
        raise Sinks("the hoist sinks")
    return bearing
