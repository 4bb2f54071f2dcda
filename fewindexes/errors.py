"""The errors of the package; each keeps what it is made with."""


class FewError(ValueError):
    """What is refused."""


class BadText(FewError):
    """What is no text of the wanted form."""

    def __init__(self, line, word):
        self.line = line
        self.word = word


class BadDemand(FewError):
    """What is no DEMAND."""

    def __init__(self, part):
        self.part = part


class BadPaper(FewError):
    """What is no PAPER, or one that does not hold."""

    def __init__(self, part):
        self.part = part


class BadStock(FewError):
    """What is no STOCK."""

    def __init__(self, number):
        self.number = number


class BadTells(FewError):
    """What are no TELLS."""

    def __init__(self, number):
        self.number = number


class BadNeeds(FewError):
    """What are no NEEDS."""

    def __init__(self, number):
        self.number = number


class BadIndexes(FewError):
    """What is no tuple of INDEXES."""

    def __init__(self, number):
        self.number = number


class BadTerm(FewError):
    """What is no TERM."""

    def __init__(self, path):
        self.path = path


class BadNumber(FewError):
    """What is no number of the wanted kind."""

    def __init__(self, given):
        self.given = given


class BadNumbers(FewError):
    """What are no NUMBERS."""

    def __init__(self, given):
        self.given = given


class BadLookup(FewError):
    """What is no LOOKUP."""

    def __init__(self, given):
        self.given = given


class BadIndex(FewError):
    """What is no INDEX."""

    def __init__(self, given):
        self.given = given


class BadTable(FewError):
    """What is no TABLE."""

    def __init__(self, given):
        self.given = given


class BadWay(FewError):
    """What is no way."""

    def __init__(self, given):
        self.given = given


class BadValues(FewError):
    """What are no values for the columns of EQUAL."""

    def __init__(self, given):
        self.given = given


class BadPrices(FewError):
    """What are no PRICES."""

    def __init__(self, given):
        self.given = given


class BadWorths(FewError):
    """What are no WORTHS."""

    def __init__(self, given):
        self.given = given


class BadPart(FewError):
    """What is no PART."""

    def __init__(self, given):
        self.given = given


class BadRow(FewError):
    """What is no row."""

    def __init__(self, given):
        self.given = given


class BadKey(FewError):
    """What is no KEY."""

    def __init__(self, given):
        self.given = given


class BadName(FewError):
    """What is no NAME."""

    def __init__(self, given):
        self.given = given


class BadLot(FewError):
    """What is no LOT."""

    def __init__(self, given):
        self.given = given


class BadUpkeeps(FewError):
    """What are no UPKEEPS."""

    def __init__(self, given):
        self.given = given


class BadChange(FewError):
    """What is no CHANGE."""

    def __init__(self, given):
        self.given = given


class Broken(FewError):
    """A KEY that two rows would be alike at."""

    def __init__(self, given):
        self.given = given


class TooMany(OverflowError):
    """More than there may be at most."""

    def __init__(self, most):
        self.most = most


class Missing(KeyError):
    """What is not there."""

    def __init__(self, given):
        self.given = given


class NothingLeft(RuntimeError):
    """More deeds than can be taken back."""

    def __init__(self, many):
        self.many = many
