"""Tokens of lines, and going through them. A token is a string: a word, a number or a sign; "" stands at the end."""

from aswritten.errors import BadText
from aswritten.forms import NUMBER_BOUND

LETTERS = "abcdefghijklmnopqrstuvwxyz"
DIGITS = "0123456789"
SIGNS = ("..", ">=", "<=", "=", "+", "-", "*", "(", ")", "{", "}", ",", ":", ";", "<")
LONGEST_WORD = 8
LONGEST_NAME = 24
LONGEST_NUMBER = 7
SET_WORDS = ("set", "data", "unknown", "soft", "wish", "prices", "for", "in", "if", "and", "or", "not", "sum", "each",
             "unlike", "round", "ahead", "top", "is", "pick", "of", "product", "count", "table", "bar", "machine",
             "moves", "ends", "works", "lengths", "needs", "room", "claim", "when")


class Cursor:
    """The tokens of the line with this number, and the place that was reached; names may have dots, if so told."""

    def __init__(self, line, number, has_dots):
        self.number = number
        self._place = 0
        self._tokens = []
        at = 0
        while at < len(line):
            if line[at] == " ":
                at += 1
            else:
                end = _end_of_token(line, at, has_dots)
                if not _is_right_length(line[at], end - at, has_dots):
                    raise BadText(number)
                self._tokens.append(line[at:end])
                at = end
        self._tokens.append("")

    def token(self):
        """Return the token at the place."""
        return self._tokens[self._place]

    def skip(self, token):
        """Go on if this token stands at the place, and tell whether it did."""
        if self._tokens[self._place] != token:
            return False
        self._place += 1
        return True

    def expect(self, token):
        """Go on behind this token, which has to stand at the place."""
        self.require(self.skip(token))

    def require(self, is_right):
        """Raise BadText if something is not right."""
        if not is_right:
            raise BadText(self.number)

    def digits(self):
        """Go on behind a number and return it."""
        token = self.token()
        self.require(token != "" and token[0] in DIGITS and int(token) <= NUMBER_BOUND)
        self._place += 1
        return int(token)

    def signed(self):
        """Go on behind a number, perhaps with a minus before it, and return it."""
        return -self.digits() if self.skip("-") else self.digits()

    def word(self):
        """Go on behind a word that is no set word and return it."""
        token = self.token()
        self.require(is_free_word(token))
        self._place += 1
        return token


def is_free_word(token):
    """Tell whether the token is a word, but no set word."""
    return token != "" and token[0] in LETTERS and token not in SET_WORDS


def _end_of_token(line, at, has_dots):
    # the place behind the longest token, or at, if there is none
    if line[at] in LETTERS:
        return _end_of_word(line, at, has_dots)
    if line[at] in DIGITS:
        end = at
        while line[end:end + 1] != "" and line[end] in DIGITS:
            end += 1
        return end
    for sign in SIGNS:
        if line[at:at + len(sign)] == sign:
            return at + len(sign)
    return at


def _end_of_word(line, at, has_dots):
    end = at
    while _goes_on(line, end) or has_dots and line[end:end + 1] == "." and _goes_on(line, end + 1):
        end += 1
    return end


def _goes_on(line, at):
    return line[at:at + 1] != "" and line[at] in LETTERS + DIGITS


def _is_right_length(begin, length, has_dots):
    if begin in LETTERS:
        return length <= (LONGEST_NAME if has_dots else LONGEST_WORD)
    return 1 <= length <= LONGEST_NUMBER
