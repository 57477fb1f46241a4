"""Roads: up to eight gates at different places, and the walkers who pass them."""

from evenpace.errors import CapacityExceeded, InvalidFactor, InvalidGate, SamePlace, UnknownGate
from evenpace.gates import delayed_gate, format_gate, in_order, is_gate, is_open, normal_gate
from evenpace.rationals import ZERO, add, is_less, multiply

MAX_GATES = 8


def moment_at(walker, place):
    """Return the moment at which a walker is at a place."""
    start, slowness = walker
    return add(start, multiply(slowness, place))


def check_room(quantity):
    """Raise CapacityExceeded if a road has no room for so many gates."""
    if quantity > MAX_GATES:
        raise CapacityExceeded(MAX_GATES)


def check_gates(gates):
    """Raise InvalidGate for the first one that is not a gate."""
    for at, gate in enumerate(gates):
        if not is_gate(gate):
            raise InvalidGate(at)


def check_places(gates):
    """Raise SamePlace for the first gate whose place an earlier one has."""
    seen = set()
    for place, period, spans in gates:
        if place in seen:
            raise SamePlace(place)
        seen.add(place)


def scaled_gate(gate, factor):
    """Return the gate with its period, begins and lengths multiplied by a positive factor."""
    place, period, spans = gate
    longer = [(multiply(begin, factor), multiply(length, factor)) for begin, length in spans]
    return (place, multiply(period, factor), longer)


class Road:
    """A road never changes: the methods that seem to change it return another one."""

    def __init__(self, gates):
        check_room(len(gates))
        check_gates(gates)
        check_places(gates)
        self.kept = in_order([normal_gate(gate) for gate in gates])

    def gates(self):
        """Return the gates in ascending order of places."""
        return list(self.kept)

    def barring(self):
        """Return the gates that have a span."""
        return [gate for gate in self.kept if len(gate[2]) > 0]

    def places(self):
        """Return the places of the gates in ascending order."""
        return [gate[0] for gate in self.kept]

    def gate_at(self, place):
        """Return the gate at a place."""
        for gate in self.kept:
            if gate[0] == place:
                return gate
        raise UnknownGate(place)

    def moments(self, walker):
        """Return the moments at which a walker is at the gates."""
        return [moment_at(walker, place) for place in self.places()]

    def passes(self, walker):
        """Return whether no gate is shut when a walker is there."""
        return self.first_shut(walker) is None

    def first_shut(self, walker):
        """Return the least place at which the gate is shut for a walker, or None."""
        for gate in self.kept:
            if not is_open(gate, moment_at(walker, gate[0])):
                return gate[0]
        return None

    def put(self, gate):
        """Return the road with one more gate."""
        check_room(len(self.kept) + 1)
        return Road([*self.kept, normal_gate(gate)])

    def without(self, place):
        """Return the road without the gate at a place."""
        struck = self.gate_at(place)
        return Road([gate for gate in self.kept if gate != struck])

    def joined(self, other):
        """Return the road with the gates of this road and of another one."""
        # The other road's gates stand behind and in order, so the first place seen again is the least one.
        return Road([*self.kept, *other.gates()])

    def later(self, delay, *, per_length=ZERO):
        """Return the road that is later by a delay and by a delay per length."""
        shift = (delay, per_length)
        return Road([delayed_gate(gate, moment_at(shift, gate[0])) for gate in self.kept])

    def scaled(self, factor):
        """Return the road whose times at the gates are multiplied by a factor."""
        if not is_less(ZERO, factor):
            raise InvalidFactor(factor)
        return Road([scaled_gate(gate, factor) for gate in self.kept])

    def __eq__(self, other):
        return isinstance(other, Road) and self.kept == other.kept

    def __len__(self):
        return len(self.kept)

    def __str__(self):
        return "".join([format_gate(gate) + "\n" for gate in self.kept])

    def __repr__(self):
        return f"Road({len(self.kept)} gates)"
