"""The post, by which makers go from house to house."""


class Letter:
    """A text laid for a house."""

    def __init__(self, to, text):
        self.to = to
        self.text = text
        # Whether it is at the post: not where it was taken, nor where its sending was undone.
        self.lies = True


class Post:
    """Texts that are laid and taken, and for each house what it has done there."""

    def __init__(self, many):
        # In the order in which they were laid.
        self._letters = []
        # For each house pairs of a letter and the row of sending or taking it in that house's log.
        self._handed = [[] for _ in range(many)]

    def lying(self):
        """The texts that lie there, each behind the house for which it was laid."""
        return [(letter.to, letter.text) for letter in self._letters if letter.lies]

    def first_for(self, house):
        """The first letter laid for a house, None where there is none."""
        for letter in self._letters:
            if letter.lies and letter.to == house:
                return letter
        return None

    def lay(self, house, to, row):
        """Lays what a house sent, its log having that row of it."""
        letter = Letter(to, row[-1])
        self._letters.append(letter)
        self._handed[house].append((letter, row))

    def hand_over(self, house, letter, row):
        """Lets a house have a letter, its log having that row of taking it."""
        letter.lies = False
        self._handed[house].append((letter, row))

    def can_undo(self, house):
        """Whether the last sending or taking of a house can be undone: what was sent must still lie there."""
        letter, row = self._handed[house][-1]
        return row[0] == "thaw" or letter.lies

    def undo(self, house):
        """Undoes the last sending or taking of a house."""
        letter, row = self._handed[house].pop()
        # What had been taken lies again where it lay.
        letter.lies = row[0] == "thaw"

    def rows_of(self, house):
        """The rows of all that a house has sent and taken."""
        return [row for _, row in self._handed[house]]
