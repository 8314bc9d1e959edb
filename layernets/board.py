"""A board of Nets, each with a NAME, on which each deed can be undone."""

from layernets.alike import alike
from layernets.errors import Known, NoNet, NothingDone
from layernets.moves import limit_changed
from layernets.nets import lifted, with_part
from layernets.tables import table_of
from layernets.walks import flow


class Board:
    """Nets, each with a NAME; at first there are none."""

    def __init__(self):
        self._nets = {}
        # The Nets ahead of each deed; a deed makes a new dict, so that those stay as they were.
        self._earlier = []

    @property
    def names(self):
        """The set of the NAMEs."""
        return tuple(sorted(self._nets))

    @property
    def deeds(self):
        """How many deeds can be undone now."""
        return len(self._earlier)

    def put(self, name, net):
        """Puts one Net more; raises Known(name)."""
        self._check_free(name)
        self._become_with(name, net)

    def drop(self, name):
        """Takes the Net away; raises NoNet(name)."""
        self._check(name)
        self._become(self._without(name))

    def rename(self, name, new):
        """Gives the Net the NAME new; raises NoNet(name), then Known(name) with new."""
        self._check(name)
        self._check_free(new)
        nets = self._without(name)
        nets[new] = self._nets[name]
        self._become(nets)

    def lay(self, name, part):
        """Lays this PART behind all others of the Net; raises NoNet(name), then BadPart(place)."""
        self._check(name)
        self._become_with(name, with_part(self._nets[name], part))

    def lift(self, name):
        """Takes the last PART of the Net away; raises NoNet(name), then NoPlace(0) if there is none."""
        self._check(name)
        self._become_with(name, lifted(self._nets[name]))

    def limit(self, name, place, limit):
        """Gives the weir at this place of the Net this limit; raises NoNet(name), then NoPlace(number)."""
        self._check(name)
        self._become_with(name, limit_changed(self._nets[name], place, limit))

    def undo(self):
        """Undoes the last deed that is not undone yet; raises NothingDone if there is none."""
        if len(self._earlier) == 0:
            raise NothingDone()
        self._nets = self._earlier.pop()

    def twin(self):
        """An equal Board without deeds to undo, which shares nothing with this one."""
        mate = Board()
        mate._nets = dict(self._nets)
        return mate

    def flow(self, name, inflow):
        """The FLOW of the Net; raises NoNet(name)."""
        self._check(name)
        return flow(self._nets[name], inflow)

    def table(self, name):
        """The TABLE of the Net; raises NoNet(name)."""
        self._check(name)
        return table_of(self._nets[name])

    def alike(self, name, to):
        """Whether the Nets do the same FOR ALL INFLOWS; raises NoNet(name) for name, then for to."""
        self._check(name)
        self._check(to)
        return alike(self._nets[name], self._nets[to])

    def __len__(self):
        return len(self._nets)

    def __contains__(self, name):
        return name in self._nets

    def __getitem__(self, name):
        self._check(name)
        return self._nets[name]

    def __iter__(self):
        raise TypeError("a Board is not iterated over")

    def __eq__(self, other):
        return isinstance(other, Board) and self._nets == other._nets

    def _check(self, name):
        """Raises NoNet(name) if there is no Net with this NAME."""
        if name not in self._nets:
            raise NoNet(name)

    def _check_free(self, name):
        """Raises Known(name) if there is a Net with this NAME."""
        if name in self._nets:
            raise Known(name)

    def _without(self, name):
        """The Nets without that of this NAME."""
        return {one: self._nets[one] for one in self._nets if one != name}

    def _become_with(self, name, net):
        """The deed after which the Net with this NAME is this one."""
        nets = dict(self._nets)
        nets[name] = net
        self._become(nets)

    def _become(self, nets):
        """The deed after which these are the Nets."""
        self._earlier.append(self._nets)
        self._nets = nets
