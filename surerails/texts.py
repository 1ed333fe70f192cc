"""Reading texts line by line."""

from surerails.errors import BadText


class Page:
    """The lines of a text, which are read one behind the other.

    The kinds of words behind the first word of a line are "number", "count" for a number of boxes or events,
    "high" for a number or never, and "height" for a number or none.
    """

    def __init__(self, text):
        pieces = text.split("\n")
        self._rows = [_words_of(piece) for piece in pieces[:-1]]
        if pieces[-1] != "":
            # A last piece without its newline is a bad line, whatever it says.
            self._rows.append([])
        self._read = 0

    def is_at_end(self):
        """Tells whether no line is left."""
        return self._read == len(self._rows)

    def is_next(self, word):
        """Tells whether the next line begins with the word."""
        return not self.is_at_end() and self._rows[self._read][:1] == [word]

    def words_ahead(self):
        """Gives the number of words behind the first one in the next line."""
        return 0 if self.is_at_end() else len(self._rows[self._read][1:])

    def take(self, word, kinds):
        """Reads the next line, the word and further words of these kinds, and lists their values."""
        if not self.is_next(word):
            raise BadText(self._read + 1)
        pieces = self._rows[self._read][1:]
        self._read += 1
        if len(pieces) != len(kinds) or not all([_is_of_kind(piece, kind) for piece, kind in zip(pieces, kinds)]):
            self.refuse()
        return [_value_of(piece) for piece in pieces]

    def take_ascending(self, word, kinds, count):
        """Reads all next lines with the word, each greater than the one before it by the first count of values."""
        rows = []
        while self.is_next(word):
            row = self.take(word, kinds)
            if rows and row[:count] <= rows[-1][:count]:
                self.refuse()
            rows.append(row)
        return rows

    def refuse(self):
        """Raises BadText for the line that was read last."""
        raise BadText(self._read)

    def check_end(self):
        """Raises BadText for the next line if there is one."""
        if not self.is_at_end():
            raise BadText(self._read + 1)


def _words_of(piece):
    """Lists the words of a line; none at all if they are not separated by exactly one space."""
    words = piece.split(" ")
    return [] if "" in words else words


def _is_of_kind(word, kind):
    if (kind, word) in (("high", "never"), ("height", "none")):
        return True
    if len(word) > (3 if kind == "count" else 13):
        return False
    # Other digits than these ten are none here, so isdigit would not do.
    return all([sign in "0123456789" for sign in word]) and (word == "0" or word[0] != "0")


def _value_of(word):
    if word == "never":
        return None
    return -1 if word == "none" else int(word)
