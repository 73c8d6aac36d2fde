"""The judge of groups told by rules: traces are walked, and moves that do as the rules say."""

from movegroups.judge_forms import are_letters, are_rules, are_subs, is_letter, is_move, is_number, is_one_of, is_word


def holds_of_words(claim, paper):
    """Whether the claim is so by its paper: an index, or two words that are one in the group, or aren't."""
    word, letters, rules, one, other = claim
    if not are_letters(letters) or not are_rules(rules, len(letters)):
        return False
    if word == "index":
        return are_subs(one, len(letters)) and _has_index(len(letters), rules, one, other, paper)
    if not is_word(one, len(letters)) or not is_word(other, len(letters)):
        return False
    if word == "apart":
        return _are_apart(len(letters), rules, one, other, paper)
    walk = Walk(len(letters), rules, ())
    if not walk.is_done(paper):
        return False
    end = walk.led(0, one)
    return end is not None and end == walk.led(0, other)


def _has_index(letters, rules, subs, index, trace):
    walk = Walk(letters, rules, subs)
    return walk.is_done(trace) and walk.is_closed() and is_number(index) and index == len(walk.left())


def _are_apart(letters, rules, one, other, doing):
    if not isinstance(doing, tuple) or len(doing) != letters or not isinstance(doing[0], tuple):
        return False
    if not all([is_move(move, len(doing[0])) for move in doing]):
        return False
    if not all([_made_by(word, doing) == _made_by((), doing) for word in rules]):
        return False
    return _made_by(one, doing) != _made_by(other, doing)


def _made_by(word, doing):
    """The images of all points by WORD."""
    images = list(range(len(doing[0])))
    for letter in word:
        if letter > 0:
            images = [doing[letter - 1][image] for image in images]
        else:
            images = [doing[-letter - 1].index(image) for image in images]
    return images


class Walk:
    """Names and their images by letters, as the steps of a trace make them."""

    def __init__(self, letters, rules, subs):
        self.letters = letters
        self.rules = rules
        self.subs = subs
        self.images = [{}]
        # What each name is from now on, or itself.
        self.less = [0]

    def is_done(self, trace):
        """Do the steps of TRACE; tell whether each could be done, and did something."""
        if not isinstance(trace, tuple):
            return False
        for step in trace:
            if not isinstance(step, tuple) or len(step) == 0 or not isinstance(step[0], str):
                return False
            if not self._does(step):
                return False
        return True

    def left(self):
        """All names that haven't fallen."""
        return [name for name, now in enumerate(self.less) if name == now]

    def is_closed(self):
        """Whether each name left has all images, each rule leads it to itself, and each of the subs 0."""
        for name in self.left():
            if len(self.images[name]) < 2 * self.letters:
                return False
            if not all([self.led(name, word) == name for word in self.rules]):
                return False
        return all([self.led(0, word) == 0 for word in self.subs])

    def led(self, name, word):
        """The name to which WORD leads from NAME; None where an image isn't told."""
        for letter in word:
            if letter not in self.images[name]:
                return None
            name = self.images[name][letter]
        return name

    def _does(self, step):
        word, numbers = step[0], step[1:]
        if word == "sub":
            return len(numbers) == 1 and is_one_of(numbers[0], len(self.subs)) and self._goes(0, self.subs[numbers[0]])
        if len(numbers) != 2 or not is_one_of(numbers[0], len(self.less)):
            return False
        name, other = numbers
        if self.less[name] != name:
            return False
        if word == "rule":
            return is_one_of(other, len(self.rules)) and self._goes(name, self.rules[other])
        return word == "new" and is_letter(other, self.letters) and self._makes_new(name, other)

    def _makes_new(self, name, letter):
        if letter in self.images[name]:
            return False
        self.less.append(len(self.less))
        self.images.append({})
        self._put(name, letter, len(self.images) - 1)
        return True

    def _goes(self, name, word):
        """Go along WORD at NAME from both ends; tell whether an image could be put, or two names fell together."""
        front, ahead, behind, end = name, 0, name, len(word)
        while ahead < end and word[ahead] in self.images[front]:
            front = self.images[front][word[ahead]]
            ahead += 1
        while ahead < end and -word[end - 1] in self.images[behind]:
            behind = self.images[behind][-word[end - 1]]
            end -= 1
        if end - ahead == 1:
            self._put(front, word[ahead], behind)
            return True
        if end > ahead or front == behind:
            return False
        self._let_fall(front, behind)
        return True

    def _put(self, name, letter, image):
        self.images[name][letter] = image
        self.images[image][-letter] = name

    def _now(self, name):
        while self.less[name] != name:
            name = self.less[name]
        return name

    def _let_fall(self, one, other):
        falling = [(one, other)]
        while falling:
            first, second = falling.pop()
            low, high = sorted([self._now(first), self._now(second)])
            if low != high:
                self.less[high] = low
                falling.extend(self._hand_over(high))

    def _hand_over(self, high):
        """Put the images of HIGH, which has fallen, at the name it is now; tell what is to fall together by that."""
        told = self.images[high]
        self.images[high] = {}
        falling = []
        for letter, image in told.items():
            if image == high:
                # It stands twice, by the letter and by its back: once is enough.
                image = self._now(high)
            else:
                del self.images[image][-letter]
            name = self._now(high)
            image = self._now(image)
            if letter in self.images[name]:
                falling.append((self.images[name][letter], image))
            elif -letter in self.images[image]:
                falling.append((self.images[image][-letter], name))
            else:
                self._put(name, letter, image)
        return falling
