"""Plans: partners of places that come again with a period, and serve several lines of flat pieces at once."""

from twoeach.basics import is_count, is_integer, is_name
from twoeach.checks import check_column, check_flat, check_kind
from twoeach.errors import InvalidPartners, InvalidPeriod, UnknownName

FARTHEST = 60


def is_period(value):
    """Whether any value is an INTEGER from 1 to 500."""
    return is_integer(value) and 1 <= value <= Plan.MOST_PERIOD


def is_remainder(value, period):
    """Whether any value is a tuple (remainder, name)."""
    if not isinstance(value, tuple) or len(value) != 2:
        return False
    return is_count(value[0]) and value[0] < period and is_name(value[1])


def is_partner(value):
    """Whether any value is a tuple (difference, name)."""
    if not isinstance(value, tuple) or len(value) != 2:
        return False
    return is_integer(value[0]) and -FARTHEST <= value[0] <= FARTHEST and is_name(value[1])


def leads_back(period, partners, at):
    """Whether the partner of the partner of a place is the place itself, and not its own partner."""
    remainder, name = at
    difference, other = partners[at]
    back = ((remainder + difference) % period, other)
    return back in partners and partners[back] == (-difference, name) and (difference, other) != (0, name)


def is_partners(period, value):
    """Whether any value is the partners of a plan with a period."""
    if not isinstance(value, dict) or not all([is_remainder(at, period) for at in value]):
        return False
    if not all([is_partner(partner) for partner in value.values()]):
        return False
    return all([leads_back(period, value, at) for at in value])


def in_sequence(partners):
    """A copy of partners, sorted."""
    # Written with three figures, remainders are sorted as strings, which is many times faster.
    written = {f"{remainder:03d}{name}": (remainder, name) for remainder, name in partners}
    return {written[text]: partners[written[text]] for text in sorted([str(text) for text in written])}


def comes_again(partners, period, step):
    """Whether partners with a period are the same a step farther on."""
    for (remainder, name), partner in partners.items():
        if partners.get(((remainder + step) % period, name)) != partner:
            return False
    return True


def least_step(partners, period):
    """The least period of partners with a period."""
    step = 1
    while period % step != 0 or not comes_again(partners, period, step):
        step += 1
    return step


def has_pair(plan, places):
    """Whether two of some places are partners."""
    return any([plan(x, name) in places for x, name in places])


def pairs_of_kinds(piece):
    """A dict from tuples (name, difference, other name) to lists of (across, kind): the pairs of entries of kinds."""
    pairs = {}
    for kind in piece.kinds():
        entries = piece[kind].entries()
        for across, _, name in entries:
            for farther, _, other in entries:
                pairs.setdefault((name, farther - across, other), []).append((across, kind))
    return pairs


class Made:
    """Partners that follow from those of another plan, so that they are right, and sorted already."""

    def __init__(self, rows):
        self.rows = rows


class Plan:
    """Partners of places, told by the remainders of the columns by a period; it never changes."""

    MOST_PERIOD = 500

    def __init__(self, period, partners):
        if not is_period(period):
            raise InvalidPeriod(period)
        if not isinstance(partners, Made) and not is_partners(period, partners):
            raise InvalidPartners(partners)
        self._period = period
        self._partners = partners.rows if isinstance(partners, Made) else in_sequence(partners)

    @staticmethod
    def none(period=1):
        """The plan without partners."""
        return Plan(period, {})

    @property
    def period(self):
        """The number of columns behind which the partners come again."""
        return self._period

    def partners(self):
        """The dict from tuples (remainder, name) to tuples (difference, name)."""
        return {at: self._partners[at] for at in self._partners}

    def is_same(self, other):
        """Whether another plan gives the same partners to all places."""
        # Of all periods of the same partners the least one is the same, too.
        return self.reduced() == other.reduced()

    def reduced(self):
        """The same plan with the least period."""
        step = least_step(self._partners, self._period)
        return Plan(step, Made({at: self._partners[at] for at in self._partners if at[0] < step}))

    def mirrored(self):
        """The plan with left and right exchanged."""
        rows = [[] for _ in range(self._period)]
        for (remainder, name), (difference, other) in self._partners.items():
            rows[-remainder % self._period].append((name, (-difference, other)))
        return Plan(self._period, Made({(remainder, name): partner for remainder, row in enumerate(rows)
                                        for name, partner in row}))

    def times(self, many):
        """The same plan with the period so many times as great."""
        if not is_integer(many) or not is_period(self._period * many):
            raise InvalidPeriod(many)
        turns = range(0, self._period * many, self._period)
        return Plan(self._period * many, Made({(remainder + turn, name): partner for turn in turns
                                               for (remainder, name), partner in self._partners.items()}))

    def serves(self, piece, kind, x):
        """Whether it serves a kind of a flat piece at the remainder of a column."""
        check_kind(piece, kind)
        check_column(x)
        check_flat(piece)
        return has_pair(self, [(x + across, name) for across, _, name in piece[kind].entries()])

    def unserved(self, piece):
        """The sorted list of the tuples (remainder, kind) that it does not serve."""
        check_flat(piece)
        pairs = pairs_of_kinds(piece)
        served = {}
        for (remainder, name), (difference, other) in self._partners.items():
            for across, kind in pairs.get((name, difference, other), []):
                served[(remainder - across) % self._period, kind] = True
        kinds = piece.kinds()
        return [(remainder, kind) for remainder in range(self._period) for kind in kinds
                if (remainder, kind) not in served]

    def is_right(self, piece):
        """Whether it serves each kind at each remainder."""
        return len(self.unserved(piece)) == 0

    def served_below(self, piece):
        """The length below which it serves all lines of all boxes; None if it is right."""
        return min([int(x + piece[kind].reach[0] + 1) for x, kind in self.unserved(piece)], default=None)

    def _shifted(self, by):
        """The plan shifted to the right, or to the left if this is below 0."""
        shift = by % self._period
        rows = list(self._partners.items())
        last = [row for row in rows if row[0][0] + shift >= self._period]
        first = [row for row in rows if row[0][0] + shift < self._period]
        # What is shifted across the end of the period comes first.
        return Plan(self._period, Made({((remainder + shift) % self._period, name): partner
                                        for (remainder, name), partner in last + first}))

    def __call__(self, x, name):
        """The partner of a place, a tuple (column, name); None if it has none."""
        check_column(x)
        if not is_name(name):
            raise UnknownName(name)
        partner = self._partners.get((x % self._period, name))
        if partner is None:
            return None
        return x + partner[0], partner[1]

    def __getitem__(self, at):
        if not is_remainder(at, self._period):
            raise UnknownName(at)
        return self._partners.get(at)

    def __iter__(self):
        raise TypeError("a plan is not iterated over")

    def __rshift__(self, other):
        """The plan shifted to the right by a number of columns."""
        check_column(other)
        return self._shifted(other)

    def __lshift__(self, other):
        """The plan shifted to the left by a number of columns."""
        check_column(other)
        return self._shifted(-other)

    def __eq__(self, other):
        return isinstance(other, Plan) and self._period == other._period and self._partners == other._partners

    def __repr__(self):
        return f"Plan({self._period}, {self._partners!r})"
