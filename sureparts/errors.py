"""The errors of the package."""


class WebError(ValueError):
    """A value that is passed is not a valid one."""


class InvalidTable(WebError):
    def __init__(self, value):
        self.value = value


class InvalidRest(WebError):
    def __init__(self, value):
        self.value = value


class InvalidWeb(WebError):
    def __init__(self, value):
        self.value = value


class InvalidPlace(WebError):
    def __init__(self, value):
        self.value = value


class InvalidRow(WebError):
    def __init__(self, value):
        self.value = value


class InvalidWeight(WebError):
    def __init__(self, value):
        self.value = value


class InvalidFilling(WebError):
    def __init__(self, value):
        self.value = value


class InvalidMap(WebError):
    def __init__(self, value):
        self.value = value


class InvalidPart(WebError):
    def __init__(self, value):
        self.value = value


class InvalidJoining(WebError):
    def __init__(self, value):
        self.value = value


class InvalidMany(WebError):
    def __init__(self, value):
        self.value = value


class InvalidArrow(WebError):
    def __init__(self, value):
        self.value = value


class InvalidArrows(WebError):
    def __init__(self, value):
        self.value = value


class InvalidClaim(WebError):
    def __init__(self, value):
        self.value = value


class InvalidCommand(WebError):
    def __init__(self, value):
        self.value = value


class InvalidDeeds(WebError):
    def __init__(self, position):
        self.position = position


class InvalidEntry(WebError):
    def __init__(self, value):
        self.value = value


class InvalidLesser(WebError):
    def __init__(self, value):
        self.value = value


class InvalidNumbers(WebError):
    def __init__(self, value):
        self.value = value


class InvalidPaper(WebError):
    def __init__(self, value):
        self.value = value


class InvalidPlaces(WebError):
    def __init__(self, value):
        self.value = value


class InvalidRows(WebError):
    def __init__(self, value):
        self.value = value


class InvalidSets(WebError):
    def __init__(self, value):
        self.value = value


class InvalidSize(WebError):
    def __init__(self, value):
        self.value = value


class InvalidSort(WebError):
    def __init__(self, value):
        self.value = value


class InvalidTables(WebError):
    def __init__(self, value):
        self.value = value


class InvalidThing(WebError):
    def __init__(self, value):
        self.value = value


class InvalidThree(WebError):
    def __init__(self, value):
        self.value = value


class InvalidWay(WebError):
    def __init__(self, value):
        self.value = value


class UnreadText(WebError):
    def __init__(self, position):
        self.position = position


class MissingError(LookupError):
    """Nothing is kept under a name or label."""


class UnknownLabel(MissingError):
    def __init__(self, value):
        self.value = value


class UnknownName(MissingError):
    def __init__(self, value):
        self.value = value


class StateError(RuntimeError):
    """Valid values don't go together, or not now."""


class UnlikeWebs(StateError):
    def __init__(self):
        pass


class CommandFailed(StateError):
    def __init__(self, position):
        self.position = position


class IsNought(StateError):
    def __init__(self):
        pass


class IsUsed(StateError):
    def __init__(self, name):
        self.name = name


class LabelTaken(StateError):
    def __init__(self, label):
        self.label = label


class NameTaken(StateError):
    def __init__(self, name):
        self.name = name


class NotAbove(StateError):
    def __init__(self):
        pass


class NotBelow(StateError):
    def __init__(self):
        pass


class NotEnd(StateError):
    def __init__(self):
        pass


class NotLevel(StateError):
    def __init__(self):
        pass


class NotStill(StateError):
    def __init__(self):
        pass


class NothingToRedo(StateError):
    def __init__(self):
        pass


class NothingToUndo(StateError):
    def __init__(self):
        pass


class UnlikeRows(StateError):
    def __init__(self):
        pass


class UnlikeSizes(StateError):
    def __init__(self):
        pass


class LimitError(ArithmeticError):
    """What is asked would be too much."""


class TooMany(LimitError):
    def __init__(self, what, limit):
        self.what = what
        self.limit = limit
