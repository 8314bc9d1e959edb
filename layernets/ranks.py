"""Several Nets at one outlet: which of them never gives it less than which other ones."""

from layernets.errors import Known, NoNet
from layernets.lead import never_less
from layernets.nets import check_outlet


class Ranks:
    """Nets with NAMEs, compared at one outlet, which do not change; raises Known(name), then NoOutlet(name)."""

    def __init__(self, rows, outlet):
        nets = {}
        for name, net in rows:
            if name in nets:
                raise Known(name)
            nets[name] = net
        for name in nets:
            check_outlet(nets[name], outlet)
        self._nets = nets
        self._names = tuple(sorted(nets))
        self._outlet = outlet
        # For each NAME those by which outlet never gets more than by it.
        self._reached = {}
        for name in nets:
            self._reached[name] = [one for one in self._names if never_less(nets[name], nets[one], outlet)]

    @property
    def names(self):
        """The set of the NAMEs."""
        return self._names

    @property
    def outlet(self):
        """The outlet at which the Nets are compared."""
        return self._outlet

    def is_never_less(self, name, other):
        """Whether outlet never gets less at the Net of name than at that of other; raises NoNet(name)."""
        self._check(name)
        self._check(other)
        return other in self._reached[name]

    def all_pairs(self):
        """The ascending tuple of the pairs of NAMEs of which the first one stands above the second one."""
        return tuple([(name, other) for name in self._names for other in self.below(name)])

    def below(self, name):
        """The set of the NAMEs that stand below this one; raises NoNet(name)."""
        self._check(name)
        return tuple([other for other in self._names if self._is_above(name, other)])

    def above(self, name):
        """The set of the NAMEs that stand above this one; raises NoNet(name)."""
        self._check(name)
        return tuple([other for other in self._names if self._is_above(other, name)])

    def ties(self):
        """The ascending tuple of the sets of at least two NAMEs that are tied with one another."""
        groups = [self._tied(name) for name in self._names]
        # Each set once, where its first NAME stands.
        return tuple([group for name, group in zip(self._names, groups) if len(group) > 1 and group[0] == name])

    def layers(self):
        """The list of sets of NAMEs: none above the first ones, only NAMEs of earlier sets above all others."""
        rows = []
        left = list(self._names)
        while len(left) > 0:
            row = tuple([name for name in left if not any([other in left for other in self.above(name)])])
            rows.append(row)
            left = [name for name in left if name not in row]
        return rows

    def chain(self):
        """The longest tuple of NAMEs, each above the next one, and of several the least; () without NAMEs."""
        # The best chain behind each NAME, those that stand lowest first, and none at all.
        chains = {}
        for row in self.layers()[::-1]:
            for name in row:
                chains[name] = (name,) + _best([chains[other] for other in self.below(name)])
        return _best(list(chains.values()))

    def __len__(self):
        return len(self._names)

    def __contains__(self, name):
        return name in self._names

    def __getitem__(self, name):
        self._check(name)
        return self._nets[name]

    def __iter__(self):
        raise TypeError("Ranks are not iterated over")

    def __eq__(self, other):
        return isinstance(other, Ranks) and self._outlet == other._outlet and self._nets == other._nets

    def _check(self, name):
        """Raises NoNet(name) if there is no such NAME."""
        if name not in self._names:
            raise NoNet(name)

    def _is_above(self, name, other):
        """Whether name stands above other."""
        return other in self._reached[name] and name not in self._reached[other]

    def _tied(self, name):
        """The set of the NAMEs that are tied with this one, itself too."""
        return tuple([other for other in self._reached[name] if name in self._reached[other]])


def _best(chains):
    """The longest of these tuples, and of several the least; () if there is none."""
    most = max([len(row) for row in chains], default=0)
    return min([row for row in chains if len(row) == most], default=())
