"""Texts of conversations, policies, settings and talks (point 23)."""

from latewords.conversations import MOST_WRITES, check, is_write
from latewords.errors import BadSetting, BadText
from latewords.settings import Policy, Setting
from latewords.talks import Talk

MOST_DIGITS = 40
# `plain` is never written.
WRITTEN_MODES = ("push", "more")


def show_conversation(conversation):
    """Return the text of a conversation."""
    check(conversation)
    return "; ".join([show_write(write) for write in conversation])


def show_write(write):
    """Return the text of a write."""
    endpoint, length, mode = write
    return f"{endpoint} {length}" if mode == "plain" else f"{endpoint} {length} {mode}"


def read_conversation(text):
    """Return the conversation that a text writes."""
    check_text(text)
    if text == "":
        return []
    writes = [read_numbers_and_mode(part, 2) for part in text.split("; ")]
    if len(writes) > MOST_WRITES or not all([is_write(write) for write in writes]):
        raise BadText(1)
    return writes


def read_policy(text):
    """Return the policy that a text writes."""
    check_text(text)
    words = text.split(" ")
    if len(words) != 3:
        raise BadText(1)
    try:
        return Policy(words[0], every=read_number(words[1]), quick=read_number(words[2]))
    except BadSetting:
        raise BadText(1) from None


def read_setting(text):
    """Return the setting that a text writes."""
    check_text(text)
    parts = text.split("; ")
    if len(parts) != 3:
        raise BadText(1)
    try:
        return Setting(read_number(parts[0]), read_policy(parts[1]), read_policy(parts[2]))
    except BadSetting:
        raise BadText(1) from None


def show_talk(talk):
    """Return the text of a talk."""
    ends = "".join([f" {node}" for node in talk.ends()])
    edges = [f"{edge[0]} {edge[1]} {show_write(edge[2:])}" for edge in talk.edges()]
    return "\n".join([f"talk {talk.node_count} {talk.first_node}", f"ends{ends}"] + edges)


def read_talk(text):
    """Return the talk that a text writes."""
    check_text(text)
    lines = text.split("\n")
    frame = read_headed(lines[0], "talk")
    if frame is None or len(frame) != 2:
        raise BadText(1)
    ends = read_headed(lines[1], "ends") if len(lines) > 1 else None
    if ends is None:
        raise BadText(2)
    edges = [read_numbers_and_mode(line, 4) for line in lines[2:]]
    if None in edges:
        raise BadText(edges.index(None) + 3)
    return Talk(frame[0], frame[1], ends, edges)


def check_text(text):
    """Raise BadText if any value is no string."""
    if not isinstance(text, str):
        raise BadText(None)


def read_number(word):
    """Return the integer that a word writes in digits without leading zeros, or None if it writes none."""
    if len(word) > MOST_DIGITS or not word.isascii() or not word.isdigit():
        return None
    if word.startswith("0") and len(word) > 1:
        return None
    return int(word)


def read_numbers_and_mode(line, count):
    """Return a tuple of so many integers and a mode, as a line writes them, or None if the line is wrong."""
    words = line.split(" ")
    numbers = [read_number(word) for word in words[:count]]
    modes = words[count:]
    if len(numbers) < count or None in numbers or len(modes) > 1:
        return None
    if len(modes) == 1 and modes[0] not in WRITTEN_MODES:
        return None
    return (*numbers, modes[0] if modes else "plain")


def read_headed(line, head):
    """Return the list of integers that a line writes after its first word, or None if the line is wrong."""
    words = line.split(" ")
    numbers = [read_number(word) for word in words[1:]]
    return None if words[0] != head or None in numbers else numbers
