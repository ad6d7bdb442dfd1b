"""The pieces into which a text is cut."""

from outpressed.alphabets import check_alphabet, check_text, is_letter
from outpressed.errors import BadRow, BadTail
from outpressed.kinds import as_tuples, is_number_below


class Cut:
    """The cut of a text: the rows of its pieces and the number of its tail."""

    def __init__(self, alphabet, rows, tail):
        check_alphabet(alphabet)
        kept = as_tuples(rows)
        check_rows(alphabet, kept)
        if not is_number_below(tail, len(kept) + 1):
            raise BadTail(tail)
        self.alphabet = alphabet
        self.rows = kept
        self.tail = tail
        self.pieces = pieces_of(kept)
        self.many = len(kept)
        self.text = "".join(self.pieces) + self.pieces[tail]
        self.starts = starts_of(self.pieces)

    def __eq__(self, other):
        return (isinstance(other, Cut) and self.alphabet == other.alphabet
                and self.rows == other.rows and self.tail == other.tail)


def check_rows(alphabet, rows):
    """Raise BadRow for the first row that is not good."""
    earlier = {}
    for index, row in enumerate(rows):
        parent, letter = row
        if not is_number_below(parent, index + 1):
            raise BadRow(index)
        if not is_letter(alphabet, letter) or row in earlier:
            raise BadRow(index)
        earlier[row] = True


def pieces_of(rows):
    """The texts of all pieces, piece 0 first."""
    pieces = [""]
    for parent, letter in rows:
        pieces.append(pieces[parent] + letter)
    return tuple(pieces)


def starts_of(pieces):
    """Where pieces 1, 2, 3 and so on begin, and at last the tail."""
    starts = []
    place = 0
    for piece in pieces[1:]:
        starts.append(place)
        place += len(piece)
    starts.append(place)
    return tuple(starts)


def cut_of(alphabet, text):
    """The Cut of the text."""
    check_alphabet(alphabet)
    check_text(alphabet, text)
    numbers = {}
    rows = []
    piece = 0
    for letter in text:
        row = (piece, letter)
        if row in numbers:
            piece = numbers[row]
        else:
            rows.append(row)
            numbers[row] = len(rows)
            piece = 0
    return Cut(alphabet, rows, piece)
