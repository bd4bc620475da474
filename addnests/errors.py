"""The errors of the package."""


class AddError(ValueError):
    """The base class of all errors of the package."""


class InvalidNumber(AddError):
    """A number does not fit."""

    def __init__(self, value=None):
        AddError.__init__(self, "not a number that fits here")
        self.value = value


class InvalidCell(AddError):
    """An argument has to be a cell or a step of a told number of axes and is none."""

    def __init__(self, value=None):
        AddError.__init__(self, "not a cell or a step of so many axes")
        self.value = value


class InvalidNest(AddError):
    """An argument has to be a nest and is none."""

    def __init__(self, value=None):
        AddError.__init__(self, "not a nest that fits here")
        self.value = value


class InvalidProgram(AddError):
    """An argument has to be a program and is none."""

    def __init__(self, value=None):
        AddError.__init__(self, "not a program that fits here")
        self.value = value


class InvalidOrder(AddError):
    """An argument has to be an order of the cells and is none."""

    def __init__(self, value=None):
        AddError.__init__(self, "not an order of the cells")
        self.value = value


class InvalidList(AddError):
    """A list does not fit."""

    def __init__(self, value=None):
        AddError.__init__(self, "not a list that fits here")
        self.value = value


class InvalidText(AddError):
    """An argument has to be the text of a program and is none."""

    def __init__(self, value=None):
        AddError.__init__(self, "not the text of a program")
        self.value = value


class InvalidFamily(AddError):
    """An argument has to be a family and is none."""

    def __init__(self, value=None):
        AddError.__init__(self, "not a family")
        self.value = value


class UnlikeAxes(AddError):
    """Two programs or families have unlike numbers of axes: the tuple of both."""

    def __init__(self, axes=None):
        AddError.__init__(self, "unlike numbers of axes")
        self.axes = axes


class NotStraight(AddError):
    """The nest at an index is not straight."""

    def __init__(self, place=None):
        AddError.__init__(self, "a nest is not straight")
        self.place = place


class Negative(AddError):
    """The nest at an index has an amount below 0."""

    def __init__(self, place=None):
        AddError.__init__(self, "a nest has an amount below 0")
        self.place = place


class NegativeCount(AddError):
    """A count is below 0 at a number."""

    def __init__(self, number=None):
        AddError.__init__(self, "a count is below 0")
        self.number = number


class InvalidName(AddError):
    """An argument has to be a name and is none."""

    def __init__(self, name=None):
        AddError.__init__(self, "not a name")
        self.name = name


class TakenName(AddError):
    """A name is kept already."""

    def __init__(self, name=None):
        AddError.__init__(self, "a name that is kept already")
        self.name = name


class UnknownName(AddError):
    """An argument has to be a kept name and is none."""

    def __init__(self, name=None):
        AddError.__init__(self, "not a kept name")
        self.name = name


class NothingToUndo(AddError):
    """There is no step to undo."""
