"""Any values, as point 2 means them, and what a road tells of itself."""

from latewords.settings import Policy, Setting


def strange_values():
    """Values of every kind that may be passed where an error is stated for any value."""
    return [
        None, True, False, 0, 1, 2, -1, 10, 10 ** 18 + 1, 10 ** 39, -(10 ** 39),
        "", " ", "\n", "0", "1", "alls", "ALL", "Write", "arrive", "arrive 2", "timer ", "x" * 6000,
        [], (), [None], (None,), [True], [0], (0,), ["all"], ("all",), ["write"], [[]], ((),),
        [[[[[[1]]]]]], ((((((1,),),),),),), [0] * 1000, ("",) * 1000,
        (0, 1, "plain"), [(0, 1, "plain")], [(0, 1, "plain")] * 1000,
        Policy(), Setting(4), [Policy()], (Policy(), Policy()),
    ]


def side_of(road, endpoint):
    """All that can be asked of a road about an endpoint, in the order of the interface."""
    return (
        road.rest_of(endpoint), road.keeps(endpoint), road.sent_by(endpoint), road.acknowledged_to(endpoint),
        road.received_by(endpoint), road.pending_at(endpoint), road.segments_at(endpoint), road.way_from(endpoint),
    )


def picture(road):
    """All that can be asked of a road."""
    return (road.possible(), road.is_over, road.stall_count, len(road), road.log(), side_of(road, 0), side_of(road, 1))
