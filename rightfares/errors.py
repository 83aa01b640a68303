"""The one error that the program raises."""


class RightfaresError(ValueError):
    """An error of the program; its reason says which."""

    def __init__(self, reason):
        ValueError.__init__(self, reason)
        self.reason = reason
