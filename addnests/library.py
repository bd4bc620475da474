"""Libraries: programs kept by names, with all changes to undo."""

from addnests.errors import InvalidName, InvalidNumber, NothingToUndo, TakenName, UnknownName
from addnests.nests import is_axes
from addnests.programs import Program, check_axes, check_program

LETTERS = "abcdefghijklmnopqrstuvwxyz"
MOST_LETTERS = 8


def is_name(value):
    """Whether a value is a name for a program."""
    return isinstance(value, str) and 1 <= len(value) <= MOST_LETTERS and all([sign in LETTERS for sign in value])


class Library:
    """Programs on arrays of so many axes, kept by names."""

    def __init__(self, axes):
        if not is_axes(axes):
            raise InvalidNumber(axes)
        self.axes = axes
        self.kept = {}
        # The steps (what was done, name, the program that was kept by the name before or None).
        self.steps = []

    def check_kept(self, name):
        """Raise UnknownName unless a value is a kept name."""
        if name not in self:
            raise UnknownName(name)

    def check_fits(self, program):
        """Raise an error unless a value is a program with the axes of the library."""
        check_program(program)
        check_axes(self, program)

    def put(self, name, program):
        """Keep one more program by a new name."""
        if not is_name(name):
            raise InvalidName(name)
        if name in self:
            raise TakenName(name)
        self.check_fits(program)
        self.steps.append(("put", name, None))
        self.kept[name] = program

    def drop(self, name):
        """Keep a program no longer."""
        self.check_kept(name)
        self.steps.append(("drop", name, self.kept[name]))
        del self.kept[name]

    def change(self, name, program):
        """Keep another program by a name."""
        self.check_kept(name)
        self.check_fits(program)
        self.steps.append(("change", name, self.kept[name]))
        self.kept[name] = program

    def program(self, name):
        """The program that is kept by a name."""
        self.check_kept(name)
        return self.kept[name]

    def together(self, *names):
        """The program that does kept programs one after another."""
        nests = []
        for name in names:
            nests.extend(self.program(name).nests())
        return Program(self.axes, nests)

    def alike_to(self, program):
        """The names, in order, of all kept programs that are equal to a program."""
        self.check_fits(program)
        return [name for name in self.names() if self.kept[name] == program]

    def names(self):
        """All names in order."""
        return sorted(list(self.kept))

    def back(self):
        """Undo the last step that is left to undo."""
        if len(self.steps) == 0:
            raise NothingToUndo()
        done, name, before = self.steps.pop()
        if before is None:
            del self.kept[name]
        else:
            self.kept[name] = before

    def log(self):
        """The steps that are left to undo, in the order in which they were made."""
        return [(done, name) for done, name, before in self.steps]

    def copy(self):
        """An independent library with the same programs by the same names and the same steps to undo."""
        result = Library(self.axes)
        result.kept = {name: self.kept[name] for name in self.kept}
        result.steps = list(self.steps)
        return result

    def __len__(self):
        return len(self.kept)

    def __contains__(self, x):
        return isinstance(x, str) and x in self.kept

    def __eq__(self, other):
        if not isinstance(other, Library) or self.axes != other.axes or self.names() != other.names():
            return False
        return all([self.kept[name] == other.kept[name] for name in self.names()])
