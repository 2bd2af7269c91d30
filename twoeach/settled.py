"""What settles a piece: a choice, or a set of kinds that is crowded."""

from twoeach.choices import least_choice, least_set
from twoeach.sizes import square


class Settled:
    """Something told about a piece."""

    def __init__(self, about):
        self.about = about

    def told(self):
        """How many names and kinds the piece has."""
        return f"{len(self.about.names())} names, {len(self.about.kinds())} kinds"


class Owned(Settled):
    """A piece with a choice."""

    def __init__(self, about, chosen):
        Settled.__init__(self, about)
        self.chosen = chosen

    def told(self):
        """That the piece is owned."""
        return "owned: " + super().told()


class Crowded(Settled):
    """A piece with a set of kinds, and the size at which it is crowded."""

    def __init__(self, about, crowd, size):
        Settled.__init__(self, about)
        self.crowd = crowd
        self.size = size

    def told(self):
        """At which size the set is crowded."""
        return f"crowded at {self.size}: " + super().told()


class CoreOwned(Owned, Crowded):
    """A piece that is crowded, with a choice of its core."""

    def __init__(self, about, chosen, crowd, size):
        Owned.__init__(self, about, chosen)
        Crowded.__init__(self, about, crowd, size)

    def told(self):
        """That the core is owned."""
        return "core: " + super().told()


def settled(piece):
    """What settles a piece."""
    chosen = least_choice(piece)
    if chosen is not None:
        return Owned(piece, chosen)
    crowd = least_set(piece)
    size = square(piece, crowd)
    chosen = least_choice(piece.core())
    if chosen is not None:
        return CoreOwned(piece, chosen, crowd, size)
    return Crowded(piece, crowd, size)
