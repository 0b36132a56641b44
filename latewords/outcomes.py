"""What comes of a conversation, by one order and over all orders (point 14)."""

from latewords.allorders import AllOrders
from latewords.conversations import check, normal_order, turns
from latewords.courses import Course


class Outcome:
    """The stalls of a conversation, what both endpoints sent in it, and the turns that stalled."""

    def __init__(self, stalls=0, segments=0, acknowledgments=0, stalled=()):
        self.stalls = stalls
        self.segments = segments
        self.acknowledgments = acknowledgments
        self.stalled = list(stalled)

    def __eq__(self, other):
        return (isinstance(other, Outcome) and self.stalls == other.stalls and self.segments == other.segments
                and self.acknowledgments == other.acknowledgments and self.stalled == other.stalled)

    def __bool__(self):
        return bool(self.stalls > 0)

    def __repr__(self):
        return f"Outcome({self.stalls}, {self.segments}, {self.acknowledgments}, {self.stalled})"


def outcome(setting, conversation, order="quick"):
    """Play a conversation by an order through states and return its outcome."""
    check(conversation)
    clearings = normal_order(conversation, order)
    quicks = [policy.quick for policy in setting.policies]
    segments = 0
    acknowledgments = 0
    stalled = []
    for number, (speaker, start, stop) in enumerate(turns(conversation)):
        course = Course(setting, speaker, 0, (False, False, False, 0, quicks[1 - speaker]))
        for index in range(start, stop):
            for _ in range(clearings[index]):
                course.make_clearing()
            course.make_write(conversation[index][1], conversation[index][2])
        stalls, quicks[1 - speaker] = course.make_end()
        if stalls > 0:
            stalled.append(number)
        segments += course.segments
        acknowledgments += course.acknowledgments
    return Outcome(len(stalled), segments, acknowledgments, stalled)


def least(setting, conversation):
    """Return the fewest stalls over all orders, and an order that gives them."""
    return best_order(setting, conversation, 1)


def most(setting, conversation):
    """Return the most stalls over all orders, and an order that gives them."""
    return best_order(setting, conversation, -1)


def best_order(setting, conversation, sign):
    """Return (stalls, order) with the fewest stalls for the sign 1, with the most for -1."""
    check(conversation)
    orders = AllOrders(setting, conversation)
    best = {orders.first_quicks: (0, [])}
    for number in range(orders.turn_count):
        after = {}
        for quicks, (stalls, order) in best.items():
            for more, left, clearings in orders.endings(number, quicks):
                total = stalls + more
                if left not in after or sign * total < sign * after[left][0]:
                    after[left] = (total, order + clearings)
        best = after
    return min(list(best.values()), key=lambda end: sign * end[0])


def verdicts(setting, conversation):
    """Return for each turn whether it stalls in no order, in each or in some."""
    check(conversation)
    orders = AllOrders(setting, conversation)
    return [verdict(orders, number, starts) for number, starts in enumerate(orders.starts(orders.turn_count))]


def verdict(orders, number, starts):
    """Return the verdict on a turn that begins with any of these quicks."""
    stalls = [ending[0] for quicks in starts for ending in orders.endings(number, quicks)]
    if max(stalls) == 0:
        return "never"
    return "always" if min(stalls) == 1 else "either"
