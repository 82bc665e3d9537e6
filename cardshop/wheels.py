"""Wheels of the counter."""

from cardshop.wholes import ten_to


class Wheel:
    """A wheel of 1 to 12 figures, which begins at 0."""

    def __init__(self, figures):
        self.figures = figures
        self.power = ten_to(figures)
        self.kept = 0
        self.over = False

    def rise(self, value):
        """Rise by a whole number from 0 on."""
        risen = self.kept + value
        if risen >= self.power:
            self.over = True
        self.kept = risen % self.power

    def amount(self):
        """What the wheel keeps."""
        return self.kept

    def ran_over(self):
        """Whether it has run over since it was made or last set to 0."""
        return self.over

    def reset(self):
        """Set the wheel to 0."""
        self.kept = 0
        self.over = False

    def shown(self):
        """The wheel's figures, with noughts ahead."""
        return str(self.kept).zfill(self.figures)
