"""The Desk: a Book led by lines of text, each of which is answered."""

from fewindexes.books import Book
from fewindexes.errors import FewError, Missing, NothingLeft, TooMany
from fewindexes.reading import are_figures, integer_in, read_alone
from fewindexes.wordlines import index_in, term_in

DEEDS = ("add", "remove", "make", "drop", "claim", "waive")
OTHERS = ("covers", "rows", "indexes", "keys", "undo", "deeds")


def is_line_word(word):
    """Whether a word can begin a line."""
    return word in DEEDS or word in OTHERS


def are_signed_figures(word):
    """Whether a word is an integer by its form, perhaps with a "-" ahead of it."""
    return are_figures(word) or (word[:1] == "-" and word != "-0" and are_figures(word[1:]))


def rest_in(line, can_stand):
    """The tuple of the integers that stand in the rest of a Line."""
    found = []
    while not line.is_over():
        found.append(int(line.next_word(can_stand)))
    return tuple(found)


def thing_in(line, word):
    """What stands behind the first word of a Line, None behind one that stands alone."""
    if word in ("add", "remove"):
        return rest_in(line, are_signed_figures)
    if word in ("claim", "waive"):
        return rest_in(line, are_figures)
    if word == "make":
        return index_in(line)
    if word == "drop":
        return line.next_integer()
    return term_in(line) if word == "covers" else None


def order_in(line):
    """The pair of the first word of a Line and of what stands behind it."""
    word = line.next_word(is_line_word)
    return (word, thing_in(line, word))


def do_deed(book, word, thing):
    """Does one of the deeds that a line tells."""
    if word == "add":
        book.add(thing)
    elif word == "remove":
        book.remove(thing)
    elif word == "make":
        book.make(thing)
    elif word == "drop":
        book.drop(thing)
    elif word == "claim":
        book.claim(thing)
    else:
        book.waive(thing)


def told_numbers(numbers):
    """The text of numbers, some of them perhaps None."""
    return " ".join(["none" if number is None else str(number) for number in numbers])


def other_answer(book, word, thing):
    """The answer to a line that tells none of the deeds."""
    if word == "covers":
        return told_numbers(book.covers(thing))
    if word == "rows":
        return str(len(book.table))
    if word == "indexes":
        return str(len(book.indexes))
    if word == "keys":
        return str(len(book.held_keys))
    if word == "deeds":
        return str(len(book))
    if len(book) == 0:
        return "nothing"
    book.undo()
    return "done"


def answer_to(book, text):
    """The answer to a line; refuses by an error what is to be answered with "no"."""
    word, thing = read_alone(text, order_in)
    if word in OTHERS:
        return other_answer(book, word, thing)
    do_deed(book, word, thing)
    return "done"


class Desk:
    """A Desk that leads a Book of as many columns as a text tells."""

    def __init__(self, text):
        self._book = Book(read_alone(text, integer_in))

    @property
    def book(self):
        """The Book that it leads."""
        return self._book

    def say(self, line):
        """The answer to a line."""
        try:
            return answer_to(self._book, line)
        except (FewError, TooMany, Missing, NothingLeft):
            return "no"
