"""Commands of a desk: which words they have, and what the words tell.

Of each word of a command its kind is told: `new` is a name that is to be free, `note` a label that is to be free,
`team`, `room`, `helpers` are names of such things, `thing` of any, `like` of one of the kind ahead of it, `label` is a
label that is noted, `said` a word of claims; the others are values. Of the last kind there is at least one word if `+`
stands behind it, any number of words if `*` does.
"""

from shrunkrooms.numerals import DIGITS, read_count, read_number

LETTERS = "abcdefghijklmnopqrstuvwxyz"
LONGEST = 8
MOST = 16
MOST_COUNT = 99
MOST_WORTH = 999999

DEEDS = {"team": "new table+", "pattern": "new count count place+", "pairs": "new pair+", "signs": "new",
         "upright": "new team", "without": "new team count", "with": "new team table", "beside": "new team team",
         "letters": "new team table table", "remixed": "new team list+", "behind": "new room", "within": "new room",
         "room": "new team list*", "least": "new team", "greatest": "new team", "lossy": "new team",
         "joined": "new room room", "shared": "new room room", "helpers": "new team table+", "free": "new team",
         "entry": "team count count count number", "drop": "thing", "claim": "note said", "forget": "label"}

# What stands behind the words of claims.
SAID = {"lacks": "team count", "keeps": "team count", "full": "team", "shrunk": "team", "simple": "team",
        "falls": "team", "fades": "team", "lasts": "team", "most": "room", "less": "room", "fair": "team count count",
        "unfair": "team count count"}

OTHERS = {"undo": "", "redo": "", "state": "label", "states": "", "claimed": "label", "names": "", "show": "thing",
          "size": "thing", "lack": "team", "plain": "team", "three": "team", "loss": "room", "made": "room",
          "rank": "helpers", "blocks": "team", "slopes": "team", "same": "thing like"}


def is_name(value):
    """Whether the value is a name: one to eight small letters and digits, a letter first."""
    if not isinstance(value, str) or not 1 <= len(value) <= LONGEST or value[0] not in LETTERS:
        return False
    return all([sign in LETTERS or sign in DIGITS for sign in value])


def is_command(value):
    """Whether the value is a command by its words alone."""
    return parsed(value) is not None


def is_deed(value):
    """Whether the value is a deed by its words alone."""
    told = parsed(value)
    return told is not None and told[0] in DEEDS


def parsed(value):
    """The first word of a command, the kinds of the words behind it, and what they tell; None if it is no command."""
    if not isinstance(value, str):
        return None
    word, *words = value.split(" ")
    kinds = _kinds(word, words)
    if kinds is None or len(kinds) != len(words):
        return None
    parts = [_read(kind, part) for kind, part in zip(kinds, words)]
    return None if any([part is None for part in parts]) else (word, kinds, parts)


def wanted_kind(word):
    """The kind of thing that a claim of this word is about."""
    return SAID[word].split()[0]


def _kinds(word, words):
    """The kinds of the words behind the first one, as many as wanted; None if no command begins so."""
    if word not in DEEDS and word not in OTHERS:
        return None
    kinds = (DEEDS[word] if word in DEEDS else OTHERS[word]).split()
    if word == "claim" and len(words) > 1 and words[1] in SAID:
        return kinds + SAID[words[1]].split()
    if len(kinds) == 0 or kinds[-1][-1] not in "+*":
        return kinds
    *ahead, last = kinds
    fewest = 1 if last[-1] == "+" else 0
    return ahead + [last[:-1]] * max(fewest, len(words) - len(ahead))


def _read(kind, word):
    """What a word of this kind tells, or None."""
    if kind not in READERS:
        return word if is_name(word) else None
    reader = READERS[kind]
    return reader(word)


def _said(word):
    """A word of claims."""
    return word if word in SAID else None


def _count(word):
    """A COUNT of at most two digits."""
    count = read_count(word)
    return None if count is None or count > MOST_COUNT else count


def _number(word):
    """A NUMBER with at most six digits above and below the stroke."""
    number = read_number(word)
    if number is None or number.bottom > MOST_WORTH or abs(number.top) > MOST_WORTH:
        return None
    return number


def _all_read(words, reader):
    """What all of 1 to 16 words tell, or None."""
    if len(words) > MOST:
        return None
    parts = [reader(word) for word in words]
    return None if any([part is None for part in parts]) else parts


def _list(word):
    """NUMBERS with commas between."""
    return _all_read(word.split(","), _number)


def _table(word):
    """LISTS, alike long, with `;` between."""
    rows = _all_read(word.split(";"), _list)
    if rows is None or not all([len(row) == len(rows[0]) for row in rows]):
        return None
    return rows


def _pair(word):
    """Two LISTS with `:` between."""
    halves = word.split(":")
    return _all_read(halves, _list) if len(halves) == 2 else None


def _place(word):
    """Two digits, row and place."""
    if len(word) != 2 or word[0] not in DIGITS or word[1] not in DIGITS:
        return None
    return int(word[0]), int(word[1])


READERS = {"said": _said, "count": _count, "number": _number, "list": _list, "table": _table, "pair": _pair,
           "place": _place}
