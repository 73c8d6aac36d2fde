"""A library of groups, their parts and maps, by names, with a log of what was done."""

from movegroups.answers import asked_of_group, asked_of_map, asked_of_part
from movegroups.bounds import MOST_NAME
from movegroups.errors import NoBack, NoLikeness, NoMap, NoName, NoSuch, Taken
from movegroups.language import group_of, read_group
from movegroups.likeness import likeness
from movegroups.maps import check_hom
from movegroups.subs import generated
from movegroups.words import SMALL


class Library:
    """Groups, parts and maps by names.

    Each thing is a tuple with its kind first, and stays as it is: ("group", its telling, its Table, the map from its
    first Table), ("part", the group's name, a SUB), ("map", two groups' names, the images).
    """

    def __init__(self):
        # By names, in the order in which they came. Each deed puts another dict here: so those ahead stay.
        self._things = {}
        self._ahead = []
        self._notes = []

    def keep(self, name, telling):
        """Keep a group by its telling, or by the text of it; told is how many members it has."""
        self._check_free(name)
        read, table = _read(telling)
        rest = tuple(range(len(table.lines)))
        self._put(name, ("group", read, table, rest), ("keep", name, telling))
        return len(rest)

    def part(self, name, group, members):
        """Keep the SUB of a group that MEMBERS generate; it is told."""
        self._check_free(name)
        sub = generated(self.table(group), members)
        self._put(name, ("part", group, sub), ("part", name, group, members))
        return sub

    def lead(self, name, one, other, images):
        """Keep a map from a group to another one that keeps what two make; it is told."""
        self._check_free(name)
        check_hom(self.table(one), self.table(other), images)
        self._put(name, ("map", one, other, images), ("lead", name, one, other, images))
        return images

    def anew(self, group, telling, *, by=None):
        """Tell a group anew, its members led over by BY, or by the least map; this map is told."""
        _, _, table, first = self._thing(group, "group")
        read, other = _read(telling)
        found = likeness(table, other)
        if found[0] != "map":
            raise NoLikeness("groups that aren't alike")
        images = found[1]
        if by is not None:
            check_hom(table, other, by)
            if len(set(by)) < len(by):
                raise NoMap("no map on all members")
            images = by
        things = {name: _led_over(thing, group, images) for name, thing in self._things.items()}
        things[group] = ("group", read, other, tuple([images[member] for member in first]))
        self._do(things, ("anew", group, telling, by))
        return images

    def strike(self, name):
        """Strike what NAME tells, and of a group all its parts and maps; told are their names."""
        self.kind(name)
        gone = tuple([each for each, thing in self._things.items() if each == name or _hangs_on(thing, name)])
        self._do({each: thing for each, thing in self._things.items() if each not in gone}, ("strike", name))
        return gone

    def back(self):
        """Take the last deed back that isn't taken back."""
        if not self._ahead:
            raise NoBack("no deed that could be taken back")
        self._things = self._ahead.pop()
        self._notes.append(("back",))

    def names(self):
        """All names, in the order in which they came."""
        return tuple(list(self._things))

    def kind(self, name):
        """Whether NAME is that of a group, a part or a map."""
        if not isinstance(name, str) or name not in self._things:
            raise NoSuch(name)
        return self._things[name][0]

    def telling(self, name):
        """A group's telling."""
        return self._thing(name, "group")[1]

    def table(self, name):
        """A group's Table."""
        return self._thing(name, "group")[2]

    def part_of(self, name):
        """A part's group and SUB."""
        return self._thing(name, "part")[1:]

    def map_of(self, name):
        """A map's groups and images."""
        return self._thing(name, "map")[1:]

    def led(self, name):
        """The map from a group's first Table to the one that it has now."""
        return self._thing(name, "group")[3]

    def asked(self, word, name):
        """What WORD asks of a group, a part or a map."""
        kind = self.kind(name)
        if kind == "group":
            return asked_of_group(word, self.table(name))
        if kind == "part":
            group, sub = self.part_of(name)
            return asked_of_part(word, self.table(group), sub)
        one, other, images = self.map_of(name)
        return asked_of_map(word, self.table(one), self.table(other), images)

    def log(self):
        """All that was done: each deed's word, and what was handed in."""
        return tuple(self._notes)

    def __len__(self):
        return len(self._things)

    def __eq__(self, other):
        if not isinstance(other, Library) or list(self._things) != list(other._things):
            return False
        return all([_seen(self._things[name]) == _seen(other._things[name]) for name in self._things])

    def _put(self, name, thing, note):
        things = dict(self._things)
        things[name] = thing
        self._do(things, note)

    def _do(self, things, note):
        self._ahead.append(self._things)
        self._things = things
        self._notes.append(note)

    def _check_free(self, name):
        if not isinstance(name, str) or not 1 <= len(name) <= MOST_NAME or not all([sign in SMALL for sign in name]):
            raise NoName("no name of one to eight small letters")
        if name in self._things:
            raise Taken(name)

    def _thing(self, name, kind):
        """What NAME, of any kind, tells; refused where there is none of this KIND."""
        if self.kind(name) != kind:
            raise NoSuch(name)
        return self._things[name]


def _read(telling):
    """The telling, of a text what it is read as, and its Table."""
    read = read_group(telling) if isinstance(telling, str) else telling
    return read, group_of(read)


def _hangs_on(thing, group):
    """Whether it is a part of the group, or a map from or to it."""
    return thing[0] != "group" and group in thing[1:-1]


def _led_over(thing, group, images):
    """The thing, where the group's members are led over by IMAGES."""
    if not _hangs_on(thing, group):
        return thing
    if thing[0] == "part":
        return ("part", group, tuple(sorted([images[member] for member in thing[2]])))
    _, one, other, led = thing
    if other == group:
        led = tuple([images[member] for member in led])
    if one == group:
        led = tuple([led[images.index(member)] for member in range(len(led))])
    return ("map", one, other, led)


def _seen(thing):
    """What two things are compared by."""
    return thing[:2] if thing[0] == "group" else thing
