"""Yards: roads by name, changed by commands that can be undone and redone."""

from evenpace.errors import (
    CapacityExceeded, DuplicateName, EmptyHistory, InvalidCommand, InvalidName, UnknownRoad)
from evenpace.gates import normal_gate
from evenpace.pieces import pieces
from evenpace.roads import Road

MAX_ROADS = 6
MAX_LETTERS = 8
SIZES = {"road": 3, "join": 4, "drop": 2, "put": 3, "strike": 3, "replace": 3, "delay": 4}

# The functions for commands take a dict of roads by name and return another one, so that a command that fails in
# the midst of a batch leaves nothing behind.


def is_name(text):
    """Return whether a text is a name: 1 to 8 lowercase letters."""
    if text == "" or len(text) > MAX_LETTERS:
        return False
    return all([sign in "abcdefghijklmnopqrstuvwxyz" for sign in text])


def check_new_name(roads, name):
    """Raise an error if there can be no new road of this name."""
    if not is_name(name):
        raise InvalidName(name)
    if name in roads:
        raise DuplicateName(name)
    if len(roads) >= MAX_ROADS:
        raise CapacityExceeded(MAX_ROADS)


def known_road(roads, name):
    """Return the road of a name."""
    if name not in roads:
        raise UnknownRoad(name)
    return roads[name]


def with_new_road(roads, command):
    """Apply ('road', name, gates)."""
    verb, name, gates = command
    check_new_name(roads, name)
    return {**roads, name: Road(gates)}


def with_joined_road(roads, command):
    """Apply ('join', name, one, other)."""
    verb, name, one, other = command
    check_new_name(roads, name)
    first = known_road(roads, one)
    return {**roads, name: first.joined(known_road(roads, other))}


def without_road(roads, command):
    """Apply ('drop', name)."""
    verb, name = command
    known_road(roads, name)
    return {other: roads[other] for other in roads if other != name}


def with_gate_put(roads, command):
    """Apply ('put', name, gate)."""
    verb, name, gate = command
    return {**roads, name: known_road(roads, name).put(gate)}


def with_gate_struck(roads, command):
    """Apply ('strike', name, place)."""
    verb, name, place = command
    return {**roads, name: known_road(roads, name).without(place)}


def with_gate_replaced(roads, command):
    """Apply ('replace', name, gate)."""
    verb, name, gate = command
    road = known_road(roads, name)
    # An invalid gate is told ahead of one that is not there.
    changed = normal_gate(gate)
    return {**roads, name: road.without(changed[0]).put(changed)}


def with_road_delayed(roads, command):
    """Apply ('delay', name, delay, per_length)."""
    verb, name, delay, per_length = command
    return {**roads, name: known_road(roads, name).later(delay, per_length=per_length)}


ACTIONS = {
    "road": with_new_road, "join": with_joined_road, "drop": without_road, "put": with_gate_put,
    "strike": with_gate_struck, "replace": with_gate_replaced, "delay": with_road_delayed}


def check_command(command):
    """Raise InvalidCommand for what is no command by its first element and its number of elements."""
    first = command[0] if len(command) > 0 else None
    if SIZES.get(first) != len(command):
        raise InvalidCommand(first)


def copied_pieces(found):
    """Return pieces with lists of their own."""
    return [(row, list(shape)) for row, shape in found]


class Yard:
    """Up to 6 roads by name, with the steps before and after this state, and pieces once they are asked for."""

    def __init__(self):
        # The dicts of roads are never modified, so the history keeps them as they are.
        self.held = {}
        self.past = []
        self.ahead = []
        self.store = {}
        self.computed = 0

    def apply(self, command):
        """Apply one command as a step."""
        self.apply_all([command])

    def apply_all(self, commands):
        """Apply commands as one step, or none of them."""
        for command in commands:
            check_command(command)
        roads = self.held
        for command in commands:
            action = ACTIONS[command[0]]
            roads = action(roads, command)
        self.past.append(self.held)
        self.ahead = []
        self.settle(roads)

    def settle(self, roads):
        """Go over to other roads and keep the pieces of those that are as before."""
        kept = [name for name in self.store if name in roads and roads[name] == self.held[name]]
        self.store = {name: self.store[name] for name in kept}
        self.held = roads

    def undo(self):
        """Take the last step back."""
        if len(self.past) == 0:
            raise EmptyHistory()
        self.ahead.append(self.held)
        self.settle(self.past.pop())

    def redo(self):
        """Make the step again that was taken back last."""
        if len(self.ahead) == 0:
            raise EmptyHistory()
        self.past.append(self.held)
        self.settle(self.ahead.pop())

    def names(self):
        """Return the names in ascending order."""
        return sorted(list(self.held))

    def road(self, name):
        """Return the road of a name."""
        return known_road(self.held, name)

    def pieces(self, name):
        """Return the pieces of a road, which are computed only once as long as the road stays the same."""
        road = known_road(self.held, name)
        if name not in self.store:
            self.store[name] = pieces(road)
            self.computed += 1
        return copied_pieces(self.store[name])

    def computations(self):
        """Return how often pieces were computed."""
        return self.computed

    def cached(self):
        """Return the names whose pieces are at hand, in ascending order."""
        return sorted(list(self.store))

    def history(self):
        """Return the numbers of steps that can be undone and redone."""
        return (len(self.past), len(self.ahead))

    def clone(self):
        """Return a yard that is the same in all, and independent of this one."""
        result = Yard()
        result.held = self.held
        result.past = list(self.past)
        result.ahead = list(self.ahead)
        result.store = {name: self.store[name] for name in self.store}
        result.computed = self.computed
        return result

    def __eq__(self, other):
        return isinstance(other, Yard) and self.held == other.held

    def __len__(self):
        return len(self.held)

    def __repr__(self):
        return f"Yard({len(self.held)} roads)"


def yard_of(roads):
    """Return a yard with roads by name, without a history."""
    result = Yard()
    result.held = dict(roads)
    return result
