"""All errors of the package: each keeps what it was made of."""


class WhoError(Exception):
    """The base class of all errors of the package."""


class InvalidText(WhoError):
    def __init__(self, at):
        self.at = at


class InvalidSchema(WhoError):
    def __init__(self, at):
        self.at = at


class InvalidField(WhoError):
    def __init__(self, at):
        self.at = at


class InvalidName(WhoError):
    def __init__(self, at):
        self.at = at


class InvalidRecord(WhoError):
    def __init__(self, at):
        self.at = at


class InvalidDay(WhoError):
    def __init__(self, at):
        self.at = at


class InvalidTable(WhoError):
    def __init__(self, at):
        self.at = at


class InvalidRow(WhoError):
    def __init__(self, at):
        self.at = at


class InvalidSteps(WhoError):
    def __init__(self, at):
        self.at = at


class InvalidValue(WhoError):
    def __init__(self, at):
        self.at = at


class InvalidScript(WhoError):
    def __init__(self, at):
        self.at = at


class InvalidGrams(WhoError):
    def __init__(self, at):
        self.at = at


class InvalidRule(WhoError):
    def __init__(self, at):
        self.at = at


class InvalidVerdicts(WhoError):
    def __init__(self, at):
        self.at = at


class InvalidAnswers(WhoError):
    def __init__(self, at):
        self.at = at


class InvalidChoices(WhoError):
    def __init__(self, at):
        self.at = at


class InvalidSources(WhoError):
    def __init__(self, at):
        self.at = at


class InvalidLinks(WhoError):
    def __init__(self, at):
        self.at = at


class InvalidBars(WhoError):
    def __init__(self, at):
        self.at = at


class InvalidPeople(WhoError):
    def __init__(self, at):
        self.at = at


class InvalidNames(WhoError):
    def __init__(self, at):
        self.at = at


class InvalidDeed(WhoError):
    def __init__(self, at):
        self.at = at


class InvalidBook(WhoError):
    def __init__(self, at):
        self.at = at


class InvalidVector(WhoError):
    def __init__(self, at):
        self.at = at


class InvalidLetter(WhoError):
    def __init__(self, at):
        self.at = at


class InvalidEvents(WhoError):
    def __init__(self, at):
        self.at = at


class InvalidIndex(WhoError):
    def __init__(self, at):
        self.at = at


class InvalidSummary(WhoError):
    def __init__(self, at):
        self.at = at


class InvalidLot(WhoError):
    def __init__(self, at):
        self.at = at


class InvalidState(WhoError):
    def __init__(self, at):
        self.at = at


class Refused(WhoError):
    """What is asked cannot be done to these things."""

    def __init__(self, at):
        self.at = at


class InvalidEntry(WhoError):
    """Signs are no entry; the word tells the first thing that is wrong."""

    def __init__(self, word):
        self.word = word


class InvalidSize(WhoError):
    """A number or a size is not one that may be; the word tells which."""

    def __init__(self, word):
        self.word = word


class NoRecord(WhoError):
    """No record has this name."""

    def __init__(self, name):
        self.name = name


class NoHouse(WhoError):
    """No house has this number."""

    def __init__(self, house):
        self.house = house


class InvalidComparer(WhoError):
    """A comparer is none of those that are told."""


class InvalidCommand(WhoError):
    """A command has none of the forms that are told."""
