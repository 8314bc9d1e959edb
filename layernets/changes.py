"""A Net that changes, deed by deed, and back again."""

from layernets.errors import NothingDone
from layernets.moves import limit_changed
from layernets.nets import lifted, with_part
from layernets.tables import table_of


class Watch:
    """A Net that changes, with its TABLES so far."""

    def __init__(self, net):
        self._now = net
        # The Net ahead of each deed that is not taken back.
        self._earlier = []
        self._tables = [table_of(net)]

    @property
    def net(self):
        """The Net as it is now."""
        return self._now

    @property
    def told(self):
        """The tuple of the TABLES at the beginning and behind each deed that is not taken back."""
        return tuple(self._tables)

    def lay(self, part):
        """Lays this PART behind all others: the TABLE then; raises BadPart(place)."""
        return self._become(with_part(self._now, part))

    def lift(self):
        """Takes the last PART away: the TABLE then; raises NoPlace(0) if there is none."""
        return self._become(lifted(self._now))

    def limit(self, place, limit):
        """Gives the weir at this place this limit: the TABLE then; raises NoPlace(number)."""
        return self._become(limit_changed(self._now, place, limit))

    def back(self):
        """Takes the last deed back; raises NothingDone if there is none."""
        if len(self._earlier) == 0:
            raise NothingDone()
        self._now = self._earlier.pop()
        self._tables.pop()

    def twin(self):
        """A Watch equal to this one, with the same deeds to take back, that shares nothing with it."""
        mate = Watch(self._now)
        mate._earlier = list(self._earlier)
        mate._tables = list(self._tables)
        return mate

    def __len__(self):
        return len(self._earlier)

    def __eq__(self, other):
        return isinstance(other, Watch) and self._now == other._now and self._tables == other._tables

    def _become(self, net):
        """The deed after which the Net is this one: its TABLE."""
        table = table_of(net)
        self._earlier.append(self._now)
        self._now = net
        self._tables.append(table)
        return table
