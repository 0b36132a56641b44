"""Hold policies and settings (point 9)."""

from latewords.errors import BadSetting
from latewords.integers import between

MOST_SIZE = 10 ** 18
MOST_EVERY = 9
MOST_QUICK = 4


class Policy:
    """When an endpoint holds a short segment, and when it acknowledges."""

    HOLDS = ("off", "partial", "all")

    def __init__(self, hold="all", *, every=2, quick=0):
        if hold not in Policy.HOLDS:
            raise BadSetting("hold")
        if not between(every, 0, MOST_EVERY):
            raise BadSetting("every")
        if not between(quick, 0, MOST_QUICK):
            raise BadSetting("quick")
        self.hold = hold
        self.every = every
        self.quick = quick

    def __eq__(self, other):
        return (isinstance(other, Policy) and self.hold == other.hold
                and self.every == other.every and self.quick == other.quick)

    def __str__(self):
        return f"{self.hold} {self.every} {self.quick}"

    def __repr__(self):
        return f"Policy({self.hold!r}, every={self.every}, quick={self.quick})"


class Setting:
    """The size of a full segment and the policies of endpoints 0 and 1."""

    def __init__(self, size, *policies):
        check_size(size)
        if len(policies) > 2 or not all([isinstance(policy, Policy) for policy in policies]):
            raise BadSetting("policies")
        self.size = size
        self.policies = policy_pair(policies)

    def __eq__(self, other):
        return isinstance(other, Setting) and self.size == other.size and self.policies == other.policies

    def __str__(self):
        return f"{self.size}; {self.policies[0]}; {self.policies[1]}"

    def __repr__(self):
        return f"Setting({self.size}, {self.policies[0]!r}, {self.policies[1]!r})"

    def changed(self, *, endpoint=None, **changes):
        """Return a new setting with the named values replaced, for one endpoint or for both."""
        size = changes.get("size", self.size)
        # A bad size is told ahead of a bad value of a policy, so it is looked at before they are made.
        check_size(size)
        zero, one = self.policies
        if endpoint is None or endpoint == 0:
            zero = changed_policy(zero, changes)
        if endpoint is None or endpoint == 1:
            one = changed_policy(one, changes)
        return Setting(size, zero, one)


def check_size(size):
    """Raise BadSetting if any value is no size."""
    if not between(size, 1, MOST_SIZE):
        raise BadSetting("size")


def policy_pair(policies):
    """Return the policies of both endpoints, of none, one or two that were given."""
    if len(policies) == 0:
        return (Policy(), Policy())
    if len(policies) == 1:
        return (policies[0], policies[0])
    return policies


def changed_policy(policy, changes):
    """Return a new policy in which the values that a dict names are replaced."""
    return Policy(
        changes.get("hold", policy.hold),
        every=changes.get("every", policy.every),
        quick=changes.get("quick", policy.quick),
    )
