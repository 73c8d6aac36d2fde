"""All ways to lead a table's members to another one's so that what two make is kept."""

from movegroups.subs import leading


class Ways:
    """The ways from ONE to OTHER, each settled by the images of ONE's leading members.

    WANTED has for each member of ONE the images that it may have, rising. Where ALL_UNLIKE holds, none but 0 goes to 0.
    """

    def __init__(self, one, other, wanted, all_unlike):
        self._others = other.lines
        self._all_unlike = all_unlike
        self._leading = leading(one)
        self._wanted = [wanted[member] for member in self._leading]
        self._made = _what_they_make(one.lines, self._leading)
        self._none_settled = [0] + [None] * (len(one.lines) - 1)

    def told(self, first_alone):
        """All ways, rising, or the least one alone; each the list of all images."""
        # Whatever is less than a leading member is made by those ahead: so the ways rise as the images of these do.
        return self._further(self._none_settled, 0, first_alone)

    def _further(self, images, place, first_alone):
        """The ways that have IMAGES, where those of the leading members ahead of PLACE are settled."""
        if place == len(self._leading):
            return [images]
        found = []
        for image in self._wanted[place]:
            settled = self._settled(images, place, image)
            if settled is not None:
                found.extend(self._further(settled, place + 1, first_alone))
            if found and first_alone:
                break
        return found

    def _settled(self, images, place, image):
        """IMAGES, and IMAGE for the leading member at PLACE, and what follows; None where that isn't kept."""
        settled = list(images)
        settled[self._leading[place]] = image
        for one, other, made in self._made[place]:
            led = self._others[settled[one]][settled[other]]
            if settled[made] is None:
                settled[made] = led
            if settled[made] != led or (self._all_unlike and led == 0 and made != 0):
                return None
        return settled


def _what_they_make(lines, leaders):
    """For each of LEADERS, in their turn, tuples (ONE, OTHER, MADE) of all members that are made with it: together

    with those of the ones ahead of it, all of what each member and each leader make. ONE was MADE ahead, or is 0.
    """
    found = []
    met = [0]
    for place in range(len(leaders)):
        ahead = len(met)
        rows = []
        at = 0
        while at < len(met):
            for other in leaders[place:place + 1] if at < ahead else leaders[:place + 1]:
                made = lines[met[at]][other]
                rows.append((met[at], other, made))
                if made not in met:
                    met.append(made)
            at += 1
        found.append(rows)
    return found
