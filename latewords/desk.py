"""The desk, which keeps settings, conversations and talks by names and answers rows (points 24 and 25)."""

from latewords.cures import cure, cure_talk
from latewords.errors import NoName, NothingDone
from latewords.outcomes import least, most, outcome, verdicts
from latewords.rows import FORMS, OTHERS, read_row
from latewords.sizes import bands
from latewords.talks import Talk
from latewords.texts import read_conversation, read_number, read_setting, read_talk, show_conversation, show_talk
from latewords.worst import fewest_stalls, first_stall, most_stalls, share


def say_thing(thing):
    """Answer `show`."""
    if isinstance(thing, list):
        return show_conversation(thing)
    return show_talk(thing) if isinstance(thing, Talk) else str(thing)


def say_stalls(setting, conversation, word):
    """Answer `stalls`."""
    order = word if word in ("quick", "slow") else [int(digit) for digit in word]
    found = outcome(setting, conversation, order)
    return f"{found.stalls} {found.segments} {found.acknowledgments}"


def say_least(setting, conversation):
    """Answer `least`."""
    return str(least(setting, conversation)[0])


def say_most(setting, conversation):
    """Answer `most`."""
    return str(most(setting, conversation)[0])


def say_verdicts(setting, conversation):
    """Answer `verdicts`."""
    return " ".join(verdicts(setting, conversation)) or "none"


def say_bands(setting, conversation):
    """Answer `bands`."""
    return ", ".join([show_band(band) for band in bands(setting, conversation)])


def show_band(band):
    """Return the text of a band; the last one shows no end."""
    low, high, fewest, top = band
    return f"{low}- {fewest} {top}" if high is None else f"{low}-{high} {fewest} {top}"


def say_first(setting, talk):
    """Answer `first`."""
    found = first_stall(talk, setting)
    return "never" if found is None else show_conversation(talk.conversation(found[0]))


def say_fewest(setting, talk, word):
    """Answer `fewest`."""
    return said(fewest_stalls(talk, setting, read_number(word)))


def say_greatest(setting, talk, word):
    """Answer `greatest`."""
    return said(most_stalls(talk, setting, read_number(word)))


def say_share(setting, talk):
    """Answer `share`."""
    found = share(talk, setting)
    return "none" if found is None else f"{found[0]}/{found[1]}"


def say_cure(setting, plan, mode):
    """Answer `cure`."""
    if isinstance(plan, Talk):
        choice = cure_talk(plan, setting, mode=mode)[0]
    else:
        choice = cure(setting, plan, mode=mode)[0]
    if choice is None:
        return "none"
    return " ".join([str(index) for index in choice]) or "nothing"


def said(number):
    """Return a number as a text, or `none` if there is none."""
    return "none" if number is None else str(number)


QUESTIONS = {
    "show": say_thing,
    "stalls": say_stalls,
    "least": say_least,
    "most": say_most,
    "verdicts": say_verdicts,
    "bands": say_bands,
    "first": say_first,
    "fewest": say_fewest,
    "greatest": say_greatest,
    "share": say_share,
    "cure": say_cure,
}


class Desk:
    """Things by their names, and for each deed what stood under its name before."""

    def __init__(self):
        self._things = {}
        self._past = []

    def say(self, row):
        """Do a deed or answer a question, as a row says it."""
        word, words, text = read_row(row)
        if word == "names":
            return " ".join(sorted(list(self._things))) or "none"
        if word == "undo":
            return self._undo()
        if word in QUESTIONS:
            answer = QUESTIONS[word]
            found = self._looked_up(FORMS[word], words)
            return answer(*found)
        return self._do(word, words, text)

    def _do(self, word, words, text):
        """Do a deed other than `undo`."""
        if word == "gone":
            self._looked_up(FORMS[word], words)
            thing = None
        elif word == "setting":
            thing = read_setting(words[1])
        elif word == "words":
            thing = read_conversation("".join(words[1:]))
        else:
            thing = read_talk(text)
        self._past.append((words[0], self._things.get(words[0])))
        self._place(words[0], thing)
        return "ok"

    def _undo(self):
        """Take back the last deed."""
        if not self._past:
            raise NothingDone()
        name, thing = self._past.pop()
        self._place(name, thing)
        return "ok"

    def _place(self, name, thing):
        """Let a name stand for a thing, or for nothing if it is None."""
        if thing is None:
            del self._things[name]
        else:
            self._things[name] = thing

    def _looked_up(self, kinds, words):
        """Return the words of a row with the things in the place of their names."""
        found = []
        for kind, word in zip(kinds, words):
            if kind in OTHERS:
                found.append(word)
            elif is_of(kind, self._things.get(word)):
                found.append(self._things[word])
            else:
                raise NoName(word)
        return found


def is_of(kind, thing):
    """Tell whether a thing, or None, is of a kind that a row asks for."""
    if thing is None or kind == "any":
        return thing is not None
    if isinstance(thing, list):
        return kind in ("words", "plan")
    if isinstance(thing, Talk):
        return kind in ("talk", "plan")
    return kind == "setting"
