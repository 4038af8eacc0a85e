"""A reader of texts: what they write is read sign by sign from the left."""

from stemkeep.errors import NoText
from stemkeep.signs import SIGNS

# Of what is more than forty within one another nothing need be read; so reading may call itself as often at most.
_DEEPEST = 44


class Reader:
    """A text, and how far it is read; what can't be read is refused with NoText.

    Some texts are read that are not the one writing of what they tell: who asks must write it again and compare.
    """

    def __init__(self, text):
        if not isinstance(text, str):
            raise NoText()
        self._text = text
        self._spot = 0

    def is_done(self):
        """Tell whether all is read."""
        return self._spot == len(self._text)

    def sees(self, word):
        """Tell whether a word comes next."""
        return self._text.startswith(word, self._spot)

    def takes(self, word):
        """Read a word where it comes next; tell whether it did."""
        if not self.sees(word):
            return False
        self._spot += len(word)
        return True

    def need(self, word):
        """Read a word, which must come next."""
        if not self.takes(word):
            raise NoText()

    def letters(self):
        """Read small letters as far as they go."""
        return self._run_of("a", "z")

    def names(self):
        """Read letters with commas between, as a list."""
        told = [self.letters()]
        while self.takes(","):
            told.append(self.letters())
        return told

    def quoted(self):
        """Read a text between quotes."""
        self.need('"')
        pieces = []
        while True:
            end = self._text.find('"', self._spot)
            if end < 0:
                raise NoText()
            pieces.append(self._text[self._spot:end])
            self._spot = end + 1
            if not self.takes('"'):
                return '"'.join(pieces)

    def expression(self):
        """Read an expression."""
        one, _ = self._chain(1)
        return one

    def place(self):
        """Read a place; or anything else that stands where a place could."""
        one, _ = self._operand(1)
        return one

    def parts(self):
        """Read expressions between brackets, as a list."""
        told, _ = self._parts(1)
        return told

    def _here(self):
        """Tell the next sign, or the empty text."""
        return self._text[self._spot:self._spot + 1]

    def _run_of(self, low, high):
        """Read signs from a low one to a high one as far as they go."""
        start = self._spot
        end = start
        while end < len(self._text) and low <= self._text[end] <= high:
            end += 1
        self._spot = end
        return self._text[start:end]

    def _chain(self, level):
        """Read an expression; tell it and how many are within one another in it. The level is how many are around."""
        one, height = self._operand(level)
        sign = self._here()
        while sign in SIGNS:
            self._spot += 1
            other, its_height = self._inner(level + 1)
            height = _height_over([height, its_height])
            one = ("op", sign, one, other)
            sign = self._here()
        return one, height

    def _inner(self, level):
        """Read likewise what stands behind a sign: an op there stands in brackets."""
        if not self.takes("("):
            return self._operand(level)
        told = self._chain(level)
        self.need(")")
        return told

    def _operand(self, level):
        """Read likewise an expression that is no op."""
        if level > _DEEPEST:
            raise NoText()
        sign = self._here()
        if sign == '"':
            return ("is", self.quoted()), 1
        if "0" <= sign <= "9":
            return ("is", self._run_of("0", "9")), 1
        if "a" <= sign <= "z":
            return self._place_of(("var", self.letters()), level)
        if self.takes("^"):
            name = self.letters()
            return self._place_of(("at", name) if name else ("short",), level)
        if self.takes("$"):
            return self._call(level)
        return self._marked(level)

    def _marked(self, level):
        """Read likewise what has a mark ahead."""
        word = "not" if self.sees("'") else "minus"
        self.need("'" if word == "not" else "-")
        one, height = self._inner(level + 1)
        return (word, one), _height_over([height])

    def _place_of(self, head, level):
        """Read likewise the parts of a place, if there are any, behind its head."""
        if not self.sees("("):
            return (*head, []), 1
        told, heights = self._parts(level + 1)
        return (*head, told), _height_over(heights)

    def _call(self, level):
        """Read likewise a call, behind its first sign."""
        word = self.letters()
        told, heights = self._parts(level + 1)
        return (word, *told), _height_over(heights)

    def _parts(self, level):
        """Read expressions between brackets; tell a list of them, and a list of their heights."""
        self.need("(")
        told = []
        heights = []
        while True:
            one, height = self._chain(level)
            told.append(one)
            heights.append(height)
            if not self.takes(","):
                break
        self.need(")")
        return told, heights


def _height_over(heights):
    """Tell the height of what is made of such as have these heights."""
    height = 1 + max(heights)
    if height > _DEEPEST:
        raise NoText()
    return height
