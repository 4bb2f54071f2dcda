"""TERMS and INDEXES as words of a line; what is told is known to be right, what is read has the form alone."""

from fewindexes.wording import WORDS, kids_in


def index_words(steps):
    """The list of the words of STEPS."""
    return [word for column, way in steps for word in (str(column), way)]


def words_beside(term):
    """The list of the words that stand between the word of a TERM and the TERMS in it."""
    if term[0] in ("equal", "between"):
        return [str(term[2])]
    if term[0] == "grouped":
        return [str(number) for number in (len(term[2]), *term[2])]
    if term[0] == "sorted":
        return [str(len(term[2])), *index_words(term[2])]
    return []


def term_words(term):
    """The list of the words of a TERM."""
    found = [term[0], *words_beside(term)]
    for kid in kids_in(term):
        found.extend(term_words(kid))
    return found


def is_term_word(word):
    """Whether a word can begin a TERM."""
    return word in WORDS


def is_way_word(word):
    """Whether a word can be the WAY of a STEP."""
    return word in ("up", "down")


def is_small_word(word):
    """Whether a word can tell how many columns or STEPS there are."""
    return word in ("0", "1", "2", "3", "4", "5", "6", "7", "8")


def step_in(line):
    """The STEP that stands next in a Line."""
    column = line.next_integer()
    return (column, line.next_word(is_way_word))


def index_in(line):
    """The INDEX that stands next in a Line, up to eight STEPS of it."""
    steps = [step_in(line)]
    while len(steps) < 8 and not line.is_over():
        steps.append(step_in(line))
    return tuple(steps)


def things_beside(line, word):
    """What stands next in a Line between a word and the TERMS behind it, in a tuple, () where there is nothing."""
    if word in ("equal", "between"):
        return (line.next_integer(),)
    if word == "grouped":
        many = int(line.next_word(is_small_word))
        return (tuple([line.next_integer() for _ in range(many)]),)
    if word == "sorted":
        many = int(line.next_word(is_small_word))
        return (tuple([step_in(line) for _ in range(many)]),)
    return ()


def told_words(line):
    """The list of the words of the TERM that stands next in a Line, each with what stands beside it."""
    found, wanting = [], 1
    while wanting > 0:
        if len(found) == 20:
            line.refuse()
        word = line.next_word(is_term_word)
        found.append((word, things_beside(line, word)))
        wanting = wanting - 1 + WORDS[word][0]
    return found


def term_in(line):
    """The TERM that stands next in a Line."""
    # from the last word on: so the TERMS that stand in one are made ahead of it, the first of them last
    made = []
    for word, things in reversed(told_words(line)):
        kids, _ = WORDS[word]
        inner = [made.pop() for _ in range(kids)]
        made.append((word, *inner, *things))
    return made[0]
