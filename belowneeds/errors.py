"""The errors of the package. Their attributes have the names of the parameters."""


class SheetError(ValueError):
    """What was passed is not of the form that is asked for."""


class InvalidNumber(SheetError):
    """This is not a number of a formula, or not a modulus."""

    def __init__(self, value):
        self.value = value


class InvalidName(SheetError):
    """This is not a name."""

    def __init__(self, value):
        self.value = value


class InvalidFormula(SheetError):
    """This is not a formula."""

    def __init__(self, value):
        self.value = value


class InvalidChosen(SheetError):
    """These are not the listed numbers of a choice."""

    def __init__(self, value):
        self.value = value


class InvalidWhere(SheetError):
    """This is none of the three words for where a reference leads."""

    def __init__(self, value):
        self.value = value


class InvalidPosition(SheetError):
    """This is not the number of a node."""

    def __init__(self, value):
        self.value = value


class InvalidColumns(SheetError):
    """The columns are wrong at this position, or as a whole."""

    def __init__(self, position):
        self.position = position


class InvalidTop(SheetError):
    """The top is wrong at this column, or as a whole."""

    def __init__(self, column):
        self.column = column


class InvalidKinds(SheetError):
    """The kinds are wrong at this kind and column, or as a whole."""

    def __init__(self, kind, column):
        self.kind = kind
        self.column = column


class InvalidPlan(SheetError):
    """The plan is wrong at this place, or as a whole."""

    def __init__(self, place):
        self.place = place


class InvalidWord(SheetError):
    """The word is wrong at this position, or as a whole."""

    def __init__(self, position):
        self.position = position


class InvalidFill(SheetError):
    """This part of a fill is wrong at this position, or as a whole."""

    def __init__(self, part, position):
        self.part = part
        self.position = position


class InvalidFoot(SheetError):
    """The foot is wrong at this column, or as a whole."""

    def __init__(self, column):
        self.column = column


class InvalidRow(SheetError):
    """This is not a row that can be asked for."""

    def __init__(self, value):
        self.value = value


class InvalidCount(SheetError):
    """This is not a count that can be asked for."""

    def __init__(self, value):
        self.value = value


class InvalidAbove(SheetError):
    """This is not an above of the sheet."""

    def __init__(self, value):
        self.value = value


class InvalidTable(SheetError):
    """This is not a rising table of the sheet."""

    def __init__(self, value):
        self.value = value


class InvalidStates(SheetError):
    """The states of a machine are wrong at this position, or as a whole."""

    def __init__(self, position):
        self.position = position


class InvalidText(SheetError):
    """The text is wrong in this line, or is no string."""

    def __init__(self, line):
        self.line = line


class InvalidClaim(SheetError):
    """This is not a claim."""

    def __init__(self, value):
        self.value = value


class InvalidCommand(SheetError):
    """This is not a command."""

    def __init__(self, value):
        self.value = value


class MissingError(LookupError):
    """What was asked for is not there."""


class UnknownColumn(MissingError):
    """This is not a column of the sheet."""

    def __init__(self, value):
        self.value = value


class UnknownKind(MissingError):
    """This is not a kind that the sheet has, or allows here."""

    def __init__(self, value):
        self.value = value


class UnknownPlace(MissingError):
    """This is not a place of the plan."""

    def __init__(self, value):
        self.value = value


class UnknownName(MissingError):
    """This is not the name of a sheet."""

    def __init__(self, value):
        self.value = value


class StateError(RuntimeError):
    """What was passed does not allow this."""


class NotAllowed(StateError):
    """The fill is not allowed from this row on."""

    def __init__(self, row):
        self.row = row


class NotFull(StateError):
    """This column is not full."""

    def __init__(self, column):
        self.column = column


class OtherPlan(StateError):
    """The two sheets have different plans."""


class NotTurning(StateError):
    """The word leads to this place instead of place 0."""

    def __init__(self, place):
        self.place = place


class NameTaken(StateError):
    """There is a sheet with this name."""

    def __init__(self, name):
        self.name = name


class NothingToUndo(StateError):
    """There is no command that can be taken back."""


class LimitError(ArithmeticError):
    """This would be more than is worked on."""


class TooMany(LimitError):
    """There would be more of these than the limit."""

    def __init__(self, what, limit):
        self.what = what
        self.limit = limit
