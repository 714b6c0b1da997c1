"""What a formula sees of the rows around its cell, and what it looked at."""


class Surroundings:
    """The cells of three rows, and the references that were worked out so far."""

    def __init__(self, modulus, above, own, below):
        self._modulus = modulus
        self._rows = {"up": above, "here": own, "down": below}
        self._looks = []

    def look(self, number, where, column):
        """The value of the cell to which this node leads, or None."""
        self._looks.append((number, where, column))
        return self._rows[where].get(column)

    def looks(self):
        """The tuples (number, where, column) of the references that were worked out, in sequence."""
        return list(self._looks)

    def as_value(self, total):
        """The value that stands for a sum."""
        return total % self._modulus
