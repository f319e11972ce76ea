"""A reader of texts, which takes one thing after another from the beginning."""

from labelframes.errors import InvalidText

# Python itself refuses to read longer numbers.
MOST_DIGITS = 4300


class Reader:
    """Takes things from a text; if they do not come next, InvalidText is raised with the whole text."""

    def __init__(self, text):
        if not isinstance(text, str):
            raise InvalidText(text)
        self.text = text
        self.at = 0

    def sees(self, signs):
        """Whether these signs come next."""
        return self.text.startswith(signs, self.at)

    def sees_number(self):
        """Whether an integer comes next."""
        return self.sees("-") or "0" <= self.text[self.at:self.at + 1] <= "9"

    def has_more(self):
        """Whether the end is not reached."""
        return self.at < len(self.text)

    def skip(self, signs):
        """Takes these signs."""
        if not self.sees(signs):
            raise InvalidText(self.text)
        self.at += len(signs)

    def take_between(self, low, high):
        """Takes all signs from `low` to `high` that come next, perhaps none."""
        start = self.at
        while self.has_more() and low <= self.text[self.at] <= high:
            self.at += 1
        return self.text[start:self.at]

    def take_word(self):
        """Takes one letter or more."""
        word = self.take_between("a", "z")
        if word == "":
            raise InvalidText(self.text)
        return word

    def take_number(self):
        """Takes an integer, written in the only way that is allowed."""
        minus = "-" if self.sees("-") else ""
        self.skip(minus)
        digits = self.take_between("0", "9")
        if digits == "" or len(digits) > MOST_DIGITS:
            raise InvalidText(self.text)
        if digits[0] == "0" and minus + digits != "0":
            raise InvalidText(self.text)
        return int(minus + digits)

    def take_quoted(self):
        """Takes a text in quotation marks."""
        signs = []
        self.skip('"')
        while not self.sees('"'):
            signs.append(self.take_sign())
        self.skip('"')
        return "".join(signs)

    def take_sign(self):
        """Takes a sign of a text in quotation marks."""
        if self.sees("\\"):
            self.skip("\\")
            if not self.sees('"') and not self.sees("\\"):
                raise InvalidText(self.text)
        sign = self.text[self.at:self.at + 1]
        if not " " <= sign <= "~":
            raise InvalidText(self.text)
        self.at += 1
        return sign

    def finish(self):
        """Raises InvalidText if anything is left."""
        if self.has_more():
            raise InvalidText(self.text)
