"""Groups told by a whole table."""

from movegroups.bounds import MOST_ORDER
from movegroups.errors import NoTable
from movegroups.wholes import is_between


class Table:
    """A group of the numbers from 0 on: line A has at place B what A and B make."""

    def __init__(self, lines):
        why = fault(lines)
        if why is not None:
            raise NoTable(why)
        self.lines = lines

    def __eq__(self, other):
        return isinstance(other, Table) and self.lines == other.lines

    def __len__(self):
        return len(self.lines)

    def __repr__(self):
        return f"Table({len(self.lines)})"


def check_table(thing):
    """Refuse what is no Table."""
    if not isinstance(thing, Table):
        raise NoTable(None)


def fault(lines):
    """Why LINES, of any kind, are no table of a group; None where they are."""
    if not _has_form(lines):
        return ("form",)
    for one in range(len(lines)):
        if lines[0][one] != one or lines[one][0] != one:
            return ("neutral", one)
    for one, line in enumerate(lines):
        if 0 not in line:
            return ("back", one)
    return _unlike_three(lines)


def _has_form(lines):
    if not isinstance(lines, tuple) or not 1 <= len(lines) <= MOST_ORDER:
        return False
    return all([_is_line(line, len(lines)) for line in lines])


def _is_line(line, many):
    if not isinstance(line, tuple) or len(line) != many:
        return False
    return all([is_between(number, 0, many - 1) for number in line])


def _unlike_three(lines):
    """The first three that make another one by twos from their end than from their front; None where none do."""
    for one, line in enumerate(lines):
        for other, right in enumerate(lines):
            left = lines[line[other]]
            # Whole lines at once: only where they differ is the third one looked for.
            if left != tuple([line[number] for number in right]):
                third = [left[number] == line[right[number]] for number in range(len(lines))].index(False)
                return ("threes", one, other, third)
    return None
