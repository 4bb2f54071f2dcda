"""Texts, line by line and word by word."""

from fewindexes.errors import BadText


def are_figures(word):
    """Whether a word is an integer from 0 on by its form."""
    if not 1 <= len(word) <= 31 or not all(["0" <= sign <= "9" for sign in word]):
        return False
    return word[0] != "0" or word == "0"


class Line:
    """A line of a text whose words are read one after another."""

    def __init__(self, number, words):
        self._number = number
        self._words = words
        self._place = 0

    def is_over(self):
        """Whether all words are read."""
        return self._place == len(self._words)

    def refuse(self):
        """Refuses the next word, or that there is none."""
        raise BadText(self._number, self._place)

    def next_word(self, can_stand):
        """The next word, where it can stand there."""
        if self.is_over() or not can_stand(self._words[self._place]):
            self.refuse()
        word = self._words[self._place]
        self._place = self._place + 1
        return word

    def next_integer(self):
        """The next word, an integer from 0 on."""
        return int(self.next_word(are_figures))

    def end(self):
        """Refuses a word too many."""
        if not self.is_over():
            self.refuse()


def lines_in(text):
    """The list of the Lines of a text, at least one; what is no string is refused."""
    if type(text) is not str:
        raise BadText(None, None)
    return [Line(number, line.split(" ")) for number, line in enumerate(text.split("\n"))]


def read_whole(line, reads):
    """What a function reads of a Line that has nothing behind it."""
    found = reads(line)
    line.end()
    return found


def read_alone(text, reads):
    """What a function reads of a text of one line that has nothing behind it."""
    lines = lines_in(text)
    found = read_whole(lines[0], reads)
    if len(lines) > 1:
        raise BadText(1, 0)
    return found


def integer_in(line):
    """The integer from 0 on that stands next."""
    return line.next_integer()
