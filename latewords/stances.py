"""How a turn goes on, but for the lengths of its writes and rests (points 3 to 5, 7 and 13).

A stance is a state without its rest: a tuple (kept, blocked, stuck, pending, quick).
"""


class Stances:
    """The stances of the turns of one speaker, and what follows on each.

    Few stances occur for many lengths, so each step is reckoned once and then known.
    """

    def __init__(self, setting, speaker):
        self._hold = setting.policies[speaker].hold
        self._every = setting.policies[1 - speaker].every
        self._known_writes = {}
        self._known_clearings = {}

    def after_write(self, stance, full, has_rest, mode):
        """Return (stance, is_sent, acknowledgments) after a write with which so many full segments are sent.

        has_rest tells whether bytes are left over then, and is_sent whether these are sent too.
        """
        key = (stance, full, has_rest, mode)
        if key not in self._known_writes:
            self._known_writes[key] = self._write(stance, full, has_rest, mode)
        return self._known_writes[key]

    def after_clearing(self, stance, has_rest):
        """Return (stance, is_sent, acknowledgments) after a clearing; is_sent tells whether the rest is sent."""
        key = (stance, has_rest)
        if key not in self._known_clearings:
            self._known_clearings[key] = self._clear_way(stance, has_rest)
        return self._known_clearings[key]

    def at_end(self, stance, has_rest):
        """Return (stalls, quick, acknowledgments) of the end of a turn, after its last write."""
        kept, blocked, stuck, pending, quick = stance
        if not has_rest:
            return (0, quick, 0)
        stalls = 1 if kept or stuck else 0
        # The timer sends a kept rest by itself; only for a held one it takes an acknowledgment.
        by_timer = 1 if stuck and not kept else 0
        return (stalls, max(quick - 1, 0), by_timer + min(quick, 1))

    def _write(self, stance, full, has_rest, mode):
        """Reckon what after_write returns."""
        kept, blocked, stuck, pending, quick = stance
        acknowledgments = 0
        if full > 0:
            acknowledgments, is_last_covered, pending, quick = self._receive_full(full, pending, quick)
            if self._hold == "all":
                blocked = True
                stuck = not is_last_covered
            elif acknowledgments > 0:
                # Each acknowledgment covers all that came before, the partial segment too.
                stuck = False
        if has_rest and (mode == "push" or mode == "plain" and not blocked):
            return self._send_rest(pending, quick, acknowledgments)
        kept = has_rest and mode == "more"
        return ((kept, blocked, stuck, pending, quick), False, acknowledgments)

    def _clear_way(self, stance, has_rest):
        """Reckon what after_clearing returns."""
        kept, blocked, stuck, pending, quick = stance
        if has_rest and not kept and not stuck:
            return self._send_rest(pending, quick, 0)
        return ((kept, stuck, stuck, pending, quick), False, 0)

    def _send_rest(self, pending, quick, acknowledgments):
        """Return (stance, True, acknowledgments) after a partial segment, the earlier acknowledgments included."""
        blocked = self._hold != "off"
        stance = (False, blocked, blocked and quick == 0, pending, max(quick - 1, 0))
        return (stance, True, acknowledgments + min(quick, 1))

    def _receive_full(self, full, pending, quick):
        """Return (acknowledgments, is_last_covered, pending, quick) when so many full segments have arrived."""
        early = min(full, quick)
        late = full - early
        if self._every == 0:
            return (early, late == 0, 0, quick - early)
        # While quick lasts nothing is pending, so the early segments leave nothing to count.
        due, pending = divmod(pending + late, self._every)
        return (early + due, pending == 0, pending, quick - early)
