"""The making of names for cosets: images put, names fallen together, new names made."""

from movegroups.words import letter_at, place_of


class Naming:
    """Names from 0 on, with images by MANY letters and their backs, and what was done to them.

    A name's images stand at the places of 1, -1, 2, -2 and so on: so the places of a letter and of its back differ in
    the last bit alone. A word is told here as the tuple of its letters' places.
    """

    def __init__(self, many, most):
        self.most = most
        self.images = [[None] * (2 * many)]
        # What each name is from now on, or itself.
        self.less = [0]
        self.steps = []
        # Whether the making was left since there would have been too many names.
        self.stopped = False

    def stands(self, name):
        """Whether NAME has not fallen."""
        return self.less[name] == name

    def make_whole(self, name, word, step):
        """Make WORD whole at NAME; STEP is kept where that puts an image or lets names fall."""
        images = self.images
        front, ahead = name, 0
        behind, end = name, len(word)
        # No image that is told goes away meanwhile: both ends go on from where they are.
        while True:
            while ahead < end and images[front][word[ahead]] is not None:
                front = images[front][word[ahead]]
                ahead += 1
            while ahead < end and images[behind][word[end - 1] ^ 1] is not None:
                behind = images[behind][word[end - 1] ^ 1]
                end -= 1
            if end - ahead < 2:
                break
            self.make_name(front, word[ahead])
            if self.stopped:
                return
        if ahead < end:
            self._put(front, word[ahead], behind)
            self.steps.append(step)
        elif front != behind:
            self._let_fall(front, behind)
            self.steps.append(step)

    def make_name(self, name, place):
        """Make a new name, the image of NAME by the letter at PLACE, or stop where it would be one too many."""
        new = len(self.less)
        if new == self.most:
            self.stopped = True
            return
        self.less.append(new)
        self.images.append([None] * len(self.images[0]))
        self._put(name, place, new)
        self.steps.append(("new", name, letter_at(place)))

    def _put(self, name, place, image):
        self.images[name][place] = image
        self.images[image][place ^ 1] = name

    def _now(self, name):
        while self.less[name] != name:
            name = self.less[name]
        return name

    def _let_fall(self, one, other):
        """Let both fall together, and whatever falls together by that."""
        falling = [(one, other)]
        while falling:
            one, other = falling.pop()
            low, high = sorted([self._now(one), self._now(other)])
            if low != high:
                self.less[high] = low
                falling.extend(self._handed_over(high))

    def _handed_over(self, high):
        """Hand the images of HIGH, which has fallen, over to the name it is now; tell what falls by that."""
        falling = []
        for place in range(len(self.images[high])):
            image = self.images[high][place]
            if image is None:
                continue
            self.images[high][place] = None
            self.images[image][place ^ 1] = None
            name, image = self._now(high), self._now(image)
            if self.images[name][place] is not None:
                falling.append((self.images[name][place], image))
            elif self.images[image][place ^ 1] is not None:
                falling.append((self.images[image][place ^ 1], name))
            else:
                self._put(name, place, image)
        return falling


def run(naming, subs, rules):
    """Make the words of SUBS whole at 0, then of each name all RULES and images, till that ends or stops."""
    ways = [_places(word) for word in rules]
    for number, word in enumerate(subs):
        if not naming.stopped:
            naming.make_whole(0, _places(word), ("sub", number))
    name = 0
    while name < len(naming.less) and not naming.stopped:
        _fill(naming, name, ways)
        name += 1


def _places(word):
    return tuple([place_of(letter) for letter in word])


def _fill(naming, name, ways):
    for number, word in enumerate(ways):
        if naming.stopped or not naming.stands(name):
            return
        naming.make_whole(name, word, ("rule", name, number))
    if not naming.stands(name):
        return
    for place in range(len(naming.images[name])):
        if naming.images[name][place] is None and not naming.stopped:
            naming.make_name(name, place)


def numbered(images):
    """The rows of names with all images, numbered as they are met from 0 on, and of each but 0 whence it was met."""
    names = [0]
    rows = {0: 0}
    whence = [None]
    row = 0
    while row < len(names):
        name = names[row]
        for place, image in enumerate(images[name]):
            if image not in rows:
                rows[image] = len(names)
                names.append(image)
                whence.append((row, letter_at(place)))
        row += 1
    return tuple([tuple([rows[image] for image in images[name]]) for name in names]), whence
