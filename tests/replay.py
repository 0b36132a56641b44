"""A second road for the tests: it keeps each byte, segment and acknowledgment by itself and counts them anew."""


class Segment:
    def __init__(self, sender, data, covered):
        self.sender, self.data, self.covered = sender, data, covered
        self.arrived = False


class Replay:
    """Plays the events that it is given; everything is told by going over what was sent and what arrived."""

    def __init__(self, setting, conversation, events=()):
        self.setting, self.conversation = setting, conversation
        self.made, self.stalls = 0, 0
        self.sent = ([], [])       # Segment objects, bare acknowledgments too, in the order of sending
        self.history = ([], [])    # for each endpoint ("sent" or "arrived", Segment), in order
        self.rest = ([], [])       # bytes, each a pair (write, number)
        self.kept = [False, False]
        for event in events:
            self.do(event)

    def bytes_written(self, endpoint):
        return sum(length for speaker, length, _ in self.conversation[:self.made] if speaker == endpoint)

    def received(self, endpoint):
        return [byte for segment in self.sent[1 - endpoint] if segment.arrived for byte in segment.data]

    def acknowledged(self, endpoint):
        arrived = [segment.covered for segment in self.sent[1 - endpoint] if segment.arrived]
        return set(max(arrived, key=len, default=[]))

    def bytes_sent(self, endpoint):
        return [byte for segment in self.sent[endpoint] for byte in segment.data]

    def permits(self, endpoint):
        hold, known = self.setting.policies[endpoint].hold, self.acknowledged(endpoint)
        segments = [segment for segment in self.sent[endpoint] if segment.data]
        if hold == "partial":
            segments = [segment for segment in segments if len(segment.data) < self.setting.size]
        return hold == "off" or all(byte in known for segment in segments for byte in segment.data)

    def send(self, endpoint, data):
        segment = Segment(endpoint, data, self.received(endpoint))
        self.sent[endpoint].append(segment)
        self.history[endpoint].append(("sent", segment))

    def send_rest(self, endpoint):
        data = list(self.rest[endpoint])
        self.rest[endpoint].clear()
        self.kept[endpoint] = False
        self.send(endpoint, data)

    def pending(self, endpoint):
        count = 0
        for what, segment in self.history[endpoint]:
            if what == "sent":
                count = 0
            elif len(segment.data) == self.setting.size:
                count += 1
        return count

    def segments(self, endpoint):
        return len([segment for segment in self.sent[1 - endpoint] if segment.arrived and segment.data])

    def way(self, endpoint):
        return [segment for segment in self.sent[endpoint] if not segment.arrived]

    def heard_all(self, endpoint):
        return len(self.received(endpoint)) == self.bytes_written(1 - endpoint)

    def over(self):
        return self.made == len(self.conversation) and self.heard_all(0) and self.heard_all(1)

    def possible(self):
        if self.over():
            return []
        found = []
        if self.made < len(self.conversation) and self.heard_all(self.conversation[self.made][0]):
            found.append("write")
        found.extend(f"arrive {endpoint}" for endpoint in (0, 1) if self.way(endpoint))
        return found if found else ["timer"]

    def do(self, event):
        assert event in self.possible()
        if event == "write":
            self.write(*self.conversation[self.made])
        elif event == "timer":
            self.stalls += 1
            speaker = self.conversation[self.made - 1][0]
            assert self.rest[speaker]
            if self.kept[speaker]:
                self.send_rest(speaker)
            else:
                self.send(1 - speaker, [])
        else:
            self.arrive(int(event[-1]))

    def write(self, endpoint, length, mode):
        rest = self.rest[endpoint]
        rest.extend((self.made, number) for number in range(length))
        self.made += 1
        while len(rest) >= self.setting.size:
            data = rest[:self.setting.size]
            del rest[:self.setting.size]
            self.send(endpoint, data)
        self.kept[endpoint] = bool(rest) and mode == "more"
        if rest and (mode == "push" or (mode == "plain" and self.permits(endpoint))):
            self.send_rest(endpoint)

    def arrive(self, endpoint):
        segment, other = self.way(endpoint)[0], 1 - endpoint
        policy = self.setting.policies[other]
        before = self.segments(other)
        segment.arrived = True
        if self.rest[other] and not self.kept[other] and self.permits(other):
            self.send_rest(other)
        if not segment.data:
            return
        self.history[other].append(("arrived", segment))
        full = len(segment.data) == self.setting.size
        if before < policy.quick or (full and policy.every > 0 and self.pending(other) == policy.every):
            self.send(other, [])

    def side(self, endpoint):
        return (
            len(self.rest[endpoint]), self.kept[endpoint], len(self.bytes_sent(endpoint)),
            len(self.acknowledged(endpoint)), len(self.received(endpoint)), self.pending(endpoint),
            self.segments(endpoint), [(len(item.data), len(item.covered)) for item in self.way(endpoint)],
        )


def played(setting, conversation, counts):
    """The events of a conversation that is played by an order, given as a list."""
    road, log = Replay(setting, conversation), []

    def do(event):
        road.do(event)
        log.append(event)

    def clearing():
        speaker = conversation[road.made - 1][0]
        for endpoint in (speaker, 1 - speaker):
            for _ in list(road.way(endpoint)):
                if not road.over():
                    do(f"arrive {endpoint}")

    def clear_all():
        while not road.over() and (road.way(0) or road.way(1)):
            clearing()

    for index, (endpoint, _, _) in enumerate(conversation):
        for _ in range(counts[index]):
            clearing()
        do("write")
        if index + 1 == len(conversation) or conversation[index + 1][0] != endpoint:
            clear_all()
            if not road.heard_all(1 - endpoint):
                do("timer")
                clear_all()
    return log
