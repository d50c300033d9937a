"""Letters: what one house has heard, ready to be carried."""


class Letter:
    """The wholes that the sender has heard, and the patterns that it asks to be sealed."""

    def __init__(self, sender, wholes, asks=()):
        self.sender = sender
        self.wholes = wholes
        self.asks = asks

    def __eq__(self, other):
        return (isinstance(other, Letter) and self.sender == other.sender and self.wholes == other.wholes
                and self.asks == other.asks)
