"""The form of texts (points 34 and 35) as rules that ask for one word after another.

A rule is a generator: it yields what may stand next, is sent the word that
stands there, and returns what it has made of its words. "end or .." may be
left out, with all behind it.
"""

import re

FIGURES = re.compile(r"(0|[1-9][0-9]{0,30})\Z")
SIGNED = re.compile(r"(0|-?[1-9][0-9]{0,30})\Z")
KIDS = {"rows": 0, "equal": 1, "between": 1, "grouped": 1, "sorted": 1, "turned": 1, "either": 2}

MAY_STAND = {
    "integer": lambda word: FIGURES.match(word) is not None,
    "signed": lambda word: SIGNED.match(word) is not None,
    "few": lambda word: re.match(r"[0-8]\Z", word) is not None,
    "way": lambda word: word == "up" or word == "down",
    "term": lambda word: word in KIDS,
    "nothing": lambda word: False,
}


class Wrong(Exception):
    """The place of the first word that cannot stand."""


def read_words(rule, words):
    """What a rule makes of words; Wrong(place) at the first one that cannot stand, or behind the last one."""
    asked = next(rule)
    for place, word in enumerate(words):
        kind = asked.split()[-1]
        may = MAY_STAND[kind](word) if kind in MAY_STAND else word in kind.split("|")
        if not may:
            raise Wrong(place)
        try:
            asked = rule.send(word)
        except StopIteration as made:
            if place + 1 < len(words):
                raise Wrong(place + 1) from None
            return made.value
    if not asked.startswith("end"):
        raise Wrong(len(words))
    try:
        rule.send(None)
    except StopIteration as made:
        return made.value


def a_step():
    column = int((yield "integer"))
    return (column, (yield "way"))


def a_term(seen):
    """The rule of a TERM; seen has the words that told TERMS so far."""
    word = yield ("term" if len(seen) < 20 else "nothing")
    seen.append(word)
    beside = ()
    if word in ("equal", "between"):
        beside = (int((yield "integer")),)
    elif word in ("grouped", "sorted"):
        things = []
        for _ in range(int((yield "few"))):
            things.append(int((yield "integer")) if word == "grouped" else (yield from a_step()))
        beside = (tuple(things),)
    kids = []
    for _ in range(KIDS[word]):
        kids.append((yield from a_term(seen)))
    return (word, *kids, *beside)


def an_index():
    steps = [(yield from a_step())]
    while len(steps) < 8:
        column = yield "end or integer"
        if column is None:
            break
        steps.append((int(column), (yield "way")))
    return tuple(steps)


def an_integer():
    return int((yield "integer"))


def a_saying():
    word = yield "parts|hard|free|does|alike"
    number = int((yield "integer"))
    if word == "does":
        return (word, number, (yield from an_index()))
    if word == "alike":
        return (word, number, int((yield "integer")))
    return (word, number)


def read_lines(rules, text):
    """What rules make of the lines of a text, each of one, the last of all that follow; or ("BadText", its fields)."""
    lines = text.split("\n")
    made = []
    for number, line in enumerate(lines):
        rule = rules[number] if number < len(rules) else rules[-1] if rules[-1] is a_saying else None
        if rule is None:
            return ("BadText", {"line": number, "word": 0})
        try:
            made.append(read_words(rule(), line.split(" ")))
        except Wrong as wrong:
            return ("BadText", {"line": number, "word": wrong.args[0]})
    wanted = len([rule for rule in rules if rule is not a_saying])
    if len(lines) < wanted:
        return ("BadText", {"line": len(lines), "word": 0})
    return made


def bent_texts(text, words=()):
    """The text with one word otherwise, left out, doubled, put in; with signs, blanks, lines; each once."""
    others = ("", "0", "1", "8", "9", "10", "00", "01", "-1", "-0", "+1", "x", "up", "Up", "down", "rows", "Rows",
              "equal", "either", "turned", "none", "1.0", "1e1", "0x1", "1_0", " ", "9" * 31, "9" * 32, "1" + "0" * 30,
              "1" + "0" * 31, "7" * 5000, *words)
    lines = text.split("\n")
    for number, line in enumerate(lines):
        told = line.split(" ")
        for at in range(len(told) + 1):
            for other in others:
                yield "\n".join([*lines[:number], " ".join([*told[:at], other, *told[at + 1:]]), *lines[number + 1:]])
                yield "\n".join([*lines[:number], " ".join([*told[:at], other, *told[at:]]), *lines[number + 1:]])
            for cut in (told[:at], told[:at] + told[at + 1:], told[:at + 1] + told[at:], told[:at] + ["", *told[at:]]):
                yield "\n".join([*lines[:number], " ".join(cut), *lines[number + 1:]])
        yield "\n".join([*lines[:number], *lines[number + 1:]])
        yield "\n".join([*lines[:number], line, *lines[number:]])
        yield "\n".join([*lines[:number], "", *lines[number:]])
        for sign in (" ", "\t", "\r", "\n"):
            yield "\n".join([*lines[:number], line + sign, *lines[number + 1:]])
            yield "\n".join([*lines[:number], sign + line, *lines[number + 1:]])
    yield text.upper()
    yield text + "\n" + text
