"""What a build writes, letter by letter."""

from outpressed.alphabets import check_text
from outpressed.blocks import press
from outpressed.builds import steps_of
from outpressed.widths import index_words


class BuildReader:
    """Reads letters as a build says.

    All that changes stands in cells, one for each step: the letters of a block
    so far, the letter that is held back, whose turn it is, or which build is
    the next one. So the cells tell the standing. A node (kind, alphabet, parts,
    cell) is a step with the alphabet that it reads; for a step that always
    writes the same, parts tells the word of each letter.
    """

    def __init__(self, build):
        self.cells = []
        self.blocks = {}
        self.nodes = self.nodes_of(build.alphabet, steps_of(build))

    def nodes_of(self, alphabet, row):
        """The nodes of a row of steps; only the first one reads the letters themselves."""
        return [self.node_of("01" if place > 0 else alphabet, step) for place, step in enumerate(row)]

    def node_of(self, alphabet, step):
        """The node of the step, with a cell of its own."""
        kind, parts = step
        cell = len(self.cells)
        self.cells.append("" if kind in ("blocks", "late") else 0)
        if kind == "plain":
            parts = dict(zip(alphabet, index_words(len(alphabet))))
        elif kind == "code":
            parts = dict(zip(alphabet, parts))
        elif kind == "blocks":
            parts = int(parts[0])
        else:
            parts = [self.nodes_of(alphabet, row) for row in parts]
        return kind, alphabet, parts, cell

    def read(self, letter):
        """The word that is written for the letter."""
        return self.row_word(self.nodes, letter)

    def row_word(self, nodes, letter):
        """The word that a row of nodes writes for the letter."""
        word = self.node_word(nodes[0], letter)
        for node in nodes[1:]:
            word = "".join([self.node_word(node, bit) for bit in word])
        return word

    def node_word(self, node, letter):
        """The word that a node writes for the letter."""
        kind, alphabet, parts, cell = node
        kept = self.cells[cell]
        if kind == "blocks":
            return self.block_word(alphabet, parts, cell, letter)
        if kind == "late":
            self.cells[cell] = letter
            return self.row_word(parts[0], kept) if kept != "" else ""
        if kind == "turns":
            self.cells[cell] = (kept + 1) % len(parts)
            return self.row_word(parts[kept], letter)
        if kind == "after":
            self.cells[cell] = alphabet.index(letter)
            return self.row_word(parts[kept], letter)
        return parts[letter]

    def block_word(self, alphabet, length, cell, letter):
        """The block, if the letter is the last one of so many, or nothing."""
        text = self.cells[cell] + letter
        if len(text) < length:
            self.cells[cell] = text
            return ""
        self.cells[cell] = ""
        if (alphabet, text) not in self.blocks:
            self.blocks[(alphabet, text)] = press(alphabet, text)
        return self.blocks[(alphabet, text)]


def words_of(build, text):
    """The words that the build writes for the letters of the text."""
    check_text(build.alphabet, text)
    reader = BuildReader(build)
    return tuple([reader.read(letter) for letter in text])
