"""The errors of the package, all directly below FigureError."""


class FigureError(ValueError):
    """What every error of the package is."""

    def __init__(self, text):
        ValueError.__init__(self, text)
        # What a console answers.
        self.class_name = self.__class__.__name__


class InvalidBase(FigureError):
    """A value that is no base was given as one."""

    def __init__(self, value):
        FigureError.__init__(self, "this is no base")
        self.value = value


class InvalidDigits(FigureError):
    """A value that is no list of digits for a scheme was given as one."""

    def __init__(self, value):
        FigureError.__init__(self, "these are no digits of a scheme")
        self.value = value


class InvalidBars(FigureError):
    """A value that is no list of barred pairs, or an item that is no such pair, was given."""

    def __init__(self, value):
        FigureError.__init__(self, "these are no barred pairs")
        self.value = value


class InvalidRow(FigureError):
    """A value that is no row was given as one."""

    def __init__(self, row):
        FigureError.__init__(self, "this is no row")
        self.row = row


class InvalidText(FigureError):
    """A value that is no text of what is to be read was given."""

    def __init__(self, text):
        FigureError.__init__(self, "this is no such text")
        self.text = text


class InvalidNumber(FigureError):
    """A value that is no integer was given as a number."""

    def __init__(self, number):
        FigureError.__init__(self, "this is no integer")
        self.number = number


class InvalidLength(FigureError):
    """A value that is no length, or an integer out of its bounds, was given."""

    def __init__(self, length):
        FigureError.__init__(self, "this is no such length")
        self.length = length


class InvalidTerms(FigureError):
    """A value that is no list of one or two terms was given."""

    def __init__(self, value):
        FigureError.__init__(self, "these are no terms")
        self.value = value


class InvalidTerm(FigureError):
    """An item that is no term was given among terms."""

    def __init__(self, term):
        FigureError.__init__(self, "this is no term")
        self.term = term


class InvalidRows(FigureError):
    """A value that is no list of rows for a form was given."""

    def __init__(self, rows):
        FigureError.__init__(self, "these are no rows for the form")
        self.rows = rows


class InvalidState(FigureError):
    """A value that is no state of a form was given as one."""

    def __init__(self, state):
        FigureError.__init__(self, "this is no state of the form")
        self.state = state


class InvalidReading(FigureError):
    """A value that is no reading, or may not follow, was given."""

    def __init__(self, reading):
        FigureError.__init__(self, "this reading may not follow")
        self.reading = reading


class InvalidPrices(FigureError):
    """A value that is no prices of a scheme's digits was given."""

    def __init__(self, prices):
        FigureError.__init__(self, "these are no prices")
        self.prices = prices


class InvalidLag(FigureError):
    """A value that is no lag of a form was given as one."""

    def __init__(self, value):
        FigureError.__init__(self, "this is no lag of the form")
        self.value = value


class InvalidTable(FigureError):
    """A value that is no table of a form for a lag was given."""

    def __init__(self, value):
        FigureError.__init__(self, "this is no table of the form")
        self.value = value


class InvalidRatio(FigureError):
    """Two values that are no ratio within its bounds were given."""

    def __init__(self, top, bottom):
        FigureError.__init__(self, "this is no such ratio")
        self.top = top
        self.bottom = bottom


class InvalidWord(FigureError):
    """A value that is none of the words to choose from was given."""

    def __init__(self, word):
        FigureError.__init__(self, "this is none of the words")
        self.word = word


class InvalidName(FigureError):
    """A value that is no name was given as one."""

    def __init__(self, name):
        FigureError.__init__(self, "this is no name")
        self.name = name


class InvalidLine(FigureError):
    """A value that is no line of the console was given."""

    def __init__(self, line):
        FigureError.__init__(self, "this is no such line")
        self.line = line


class UnknownDigit(FigureError):
    """A value that is no digit of a scheme was given as one."""

    def __init__(self, digit):
        FigureError.__init__(self, "the scheme has no such digit")
        self.digit = digit


class UnknownName(FigureError):
    """A name was given that nothing has."""

    def __init__(self, name):
        FigureError.__init__(self, "nothing has this name")
        self.name = name


class UnlikeBases(FigureError):
    """A base was given that is neither equal nor opposite to another one."""

    def __init__(self, value):
        FigureError.__init__(self, "the bases are neither equal nor opposite")
        self.value = value


class UnlikeForms(FigureError):
    """Two machines or chains were given whose forms do not fit."""

    def __init__(self, one, other):
        FigureError.__init__(self, "the forms do not fit")
        self.one = one
        self.other = other


class NameTaken(FigureError):
    """A name was given that is in use already."""

    def __init__(self, name):
        FigureError.__init__(self, "this name is taken")
        self.name = name


class NotWritten(FigureError):
    """A number was given that the scheme does not write."""

    def __init__(self, number):
        FigureError.__init__(self, "the scheme does not write this number")
        self.number = number


class InUse(FigureError):
    """A scheme was to be removed that an entry is in."""

    def __init__(self, name):
        FigureError.__init__(self, "an entry is in this scheme")
        self.name = name


class NotScheme(FigureError):
    """A value that is no Scheme was given as one."""

    def __init__(self, value):
        FigureError.__init__(self, "this is no Scheme")
        self.value = value


class NotForm(FigureError):
    """A value that is no Form was given as one."""

    def __init__(self, value):
        FigureError.__init__(self, "this is no Form")
        self.value = value


class NotMachine(FigureError):
    """A value that is no Machine was given as one."""

    def __init__(self, value):
        FigureError.__init__(self, "this is no Machine")
        self.value = value


class TooMany(FigureError):
    """A form has more states than were asked for."""

    def __init__(self, most):
        FigureError.__init__(self, "the form has more states")
        self.most = most


class NothingToUndo(FigureError):
    """An undo was asked for while no deed is in force."""

    def __init__(self):
        FigureError.__init__(self, "there is nothing to undo")
