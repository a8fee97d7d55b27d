"""What two lifts do not have in common."""

from hadnot.leaves import NONE
from hadnot.values import rank


def changes(one, other):
    """The pairs of a deed of both days and a slot whose worth behind this deed is another one."""
    compared = Compared(one, other)
    told = []
    for deed in other.day.names:
        if deed in one.day:
            told.extend([(deed, slot) for slot in compared.slots_behind(deed)])
    return tuple(told)


class Compared:
    """Two lifts, and which of their nodes have been compared."""

    def __init__(self, one, other):
        self.one = one
        self.other = other
        self.places = part_places(one.day.all_tables, other.day.all_tables)
        # Most slots keep their nodes from deed to deed: each pair of nodes is compared once.
        self.known = {}

    def slots_behind(self, deed):
        """The slots that differ behind a deed, in order."""
        one, other = self.one.slot_nodes(deed), self.other.slot_nodes(deed)
        slots = [*one, *[slot for slot in other if slot not in one]]
        slots = [slot for slot in slots if self.is_other(one.get(slot, NONE), other.get(slot, NONE))]
        cells = [slot for slot in slots if isinstance(slot, str)]
        parts = [slot for slot in slots if isinstance(slot, tuple)]
        return [*sorted(cells), *sorted(parts, key=self.rank_of)]

    def is_other(self, node, by):
        """Whether the forms of a node of each lift differ."""
        if (node, by) not in self.known:
            self.known[node, by] = self.one.worth_of(node).nodes != self.other.worth_of(by).nodes
        return self.known[node, by]

    def rank_of(self, slot):
        """What the slot of a part is sorted by."""
        table, key, part = slot
        return table, rank(key), self.places[table, part]


def part_places(one, other):
    """From each table and part to its place: in the second day's tables, behind these in the first one's."""
    places = {}
    for tables in (other, one):
        for table, parts in tables.items():
            for part in parts:
                places.setdefault((table, part), len(places))
    return places
