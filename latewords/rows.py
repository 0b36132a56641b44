"""The rows of a desk: which words they have, and what each word may be (points 24 and 25)."""

from latewords.errors import BadRow
from latewords.texts import WRITTEN_MODES, read_number

MOST_LETTERS = 8
MOST_NUMBER = 10 ** 18
FEED = "\n"

# After each first word: the kinds of the others. `setting`, `words` and `talk` name something of this kind, `plan`
# a conversation or a talk, `any` anything, and `name` may stand for nothing.
FORMS = {
    "setting": ("name", "text"),
    "words": ("name", "text"),
    "talk": ("name", "feed"),
    "gone": ("any",),
    "undo": (),
    "show": ("any",),
    "stalls": ("setting", "words", "order"),
    "least": ("setting", "words"),
    "most": ("setting", "words"),
    "verdicts": ("setting", "words"),
    "bands": ("setting", "words"),
    "first": ("setting", "talk"),
    "fewest": ("setting", "talk", "number"),
    "greatest": ("setting", "talk", "number"),
    "share": ("setting", "talk"),
    "cure": ("setting", "plan", "mode"),
    "names": (),
}
# The kinds of words that are not names.
OTHERS = ("text", "feed", "order", "number", "mode")


def read_row(row):
    """Return (first word, the other words, text of a talk), or raise BadRow for any value that is no row."""
    if not isinstance(row, str):
        raise BadRow(None)
    head, feed, text = row.partition(FEED)
    if head.split(" ")[0] == "talk":
        words = head.split(" ") + ([feed] if feed else [])
    elif row.split(" ")[0] in ("setting", "words"):
        # A text may have spaces.
        words = row.split(" ", 2)
    else:
        words = row.split(" ")
    check_words(words)
    return (words[0], words[1:], text)


def check_words(words):
    """Raise BadRow for the first word that is missing, one too many or no such word."""
    if words[0] not in FORMS:
        raise BadRow(0)
    kinds = FORMS[words[0]]
    for column, (kind, word) in enumerate(zip(kinds, words[1:]), 1):
        if not is_word(kind, word):
            raise BadRow(column)
    # The empty conversation has no text, and no space ahead of it.
    is_empty = words[0] == "words" and len(words) == 2
    if len(words) < len(kinds) + 1 and not is_empty:
        raise BadRow(len(words))
    if len(words) > len(kinds) + 1:
        raise BadRow(len(kinds) + 1)


def is_word(kind, word):
    """Tell whether a word is one of a kind, whatever a name stands for."""
    if kind == "text":
        return word != ""
    if kind == "feed":
        return word == FEED
    if kind == "order":
        return word in ("quick", "slow") or word.isascii() and word.isdigit()
    if kind == "mode":
        return word in WRITTEN_MODES
    if kind == "number":
        number = read_number(word)
        return number is not None and number <= MOST_NUMBER
    return len(word) <= MOST_LETTERS and word.isascii() and word.isalpha() and word.islower()
