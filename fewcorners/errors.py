"""The errors of the package, four families of them."""


class BodyError(ValueError):
    """A value that is not what the call wants."""


class InvalidBody(BodyError):
    def __init__(self, value):
        super().__init__("not a Body")
        self.value = value


class InvalidForm(BodyError):
    def __init__(self, value):
        super().__init__("not a form for these points")
        self.value = value


class InvalidMany(BodyError):
    def __init__(self, value):
        super().__init__("not a count within the bounds")
        self.value = value


class InvalidNumber(BodyError):
    def __init__(self, value):
        super().__init__("not a number")
        self.value = value


class InvalidPlace(BodyError):
    def __init__(self, value):
        super().__init__("not a place")
        self.value = value


class InvalidPlaces(BodyError):
    def __init__(self, value):
        super().__init__("not a lot of places")
        self.value = value


class InvalidPoints(BodyError):
    def __init__(self, value):
        super().__init__("not points")
        self.value = value


class InvalidTable(BodyError):
    def __init__(self, value):
        super().__init__("not such a table")
        self.value = value


class InvalidWheel(BodyError):
    def __init__(self, value):
        super().__init__("not a wheel")
        self.value = value


class InvalidWord(BodyError):
    def __init__(self, value):
        super().__init__("not a word of a wheel")
        self.value = value


class DividedByZero(BodyError):
    def __init__(self):
        super().__init__("divided by zero")


class InvalidClaim(BodyError):
    def __init__(self, value):
        super().__init__("not a claim")
        self.value = value


class InvalidCommand(BodyError):
    def __init__(self, value):
        super().__init__("not a command")
        self.value = value


class InvalidLines(BodyError):
    def __init__(self, position):
        super().__init__("not a list of deeds")
        self.position = position


class InvalidNumbers(BodyError):
    def __init__(self, value):
        super().__init__("not such a list of numbers")
        self.value = value


class InvalidPaper(BodyError):
    def __init__(self, value):
        super().__init__("not a paper of the claim")
        self.value = value


class InvalidSort(BodyError):
    def __init__(self, value):
        super().__init__("not a word of a sort")
        self.value = value


class InvalidSum(BodyError):
    def __init__(self, value):
        super().__init__("not a sum to nought of the points")
        self.value = value


class InvalidText(BodyError):
    def __init__(self, line):
        super().__init__("not a written form")
        self.line = line


class InvalidValue(BodyError):
    def __init__(self, value):
        super().__init__("not a value of the sort")
        self.value = value


class MissingError(LookupError):
    """Something that is not kept."""


class UnknownLabel(MissingError):
    def __init__(self, value):
        super().__init__("no such label")
        self.value = value


class UnknownName(MissingError):
    def __init__(self, value):
        super().__init__("no such name")
        self.value = value


class StateError(RuntimeError):
    """A call that does not fit how things are."""


class NotFew(StateError):
    def __init__(self):
        super().__init__("the points are not few")


class NotFace(StateError):
    def __init__(self):
        super().__init__("the lot is not a face")


class Simplex(StateError):
    def __init__(self):
        super().__init__("a simplex has no wheel")


class TooFew(StateError):
    def __init__(self):
        super().__init__("there are too few corners")


class CommandFailed(StateError):
    def __init__(self, position):
        super().__init__("a command failed")
        self.position = position


class Flattened(StateError):
    def __init__(self):
        super().__init__("the move flattens the body")


class LabelTaken(StateError):
    def __init__(self, label):
        super().__init__("the label is taken")
        self.label = label


class NameTaken(StateError):
    def __init__(self, name):
        super().__init__("the name is taken")
        self.name = name


class NotCorner(StateError):
    def __init__(self, position):
        super().__init__("a point is not a corner")
        self.position = position


class NothingToRedo(StateError):
    def __init__(self):
        super().__init__("there is nothing to redo")


class NothingToUndo(StateError):
    def __init__(self):
        super().__init__("there is nothing to undo")


class LimitError(ArithmeticError):
    """More than the package keeps or makes."""


class TooMany(LimitError):
    def __init__(self, what, limit):
        super().__init__("too many")
        self.what = what
        self.limit = limit
