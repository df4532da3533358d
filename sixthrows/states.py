"""Rules and a row that change, with all that they were before."""

from sixthrows.errors import NothingToUndo


class States:
    """Rules and a free row as they are now, and those of before each change that stands."""

    def __init__(self, rules):
        self.told = rules
        self.row = ""
        self.before = []

    def go_on(self, rules, row):
        """Take other rules and another free row."""
        self.before.append((self.told, self.row))
        self.told = rules
        self.row = row

    def go_back(self):
        """Take the last change that stands back."""
        if not self.before:
            raise NothingToUndo("there is nothing that could be taken back")
        self.told, self.row = self.before.pop()
