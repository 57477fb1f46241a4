"""Courses: crossed roads made ready for looking for rows of windows, in whole numbers."""

from evenpace.gates import first_windows
from evenpace.lattices import common_denominator, whole
from evenpace.rationals import is_less
from evenpace.steps import crossed_gates, steps, turns

# Moments here are pairs (numerator, denominator) that count time units of a course. They need not be in lowest
# terms: nothing is gained by reducing what is only compared.


def whole_windows(windows, unit):
    """Return windows with their begins and ends as numbers of time units."""
    return [(whole(begin, unit), whole(end, unit)) for begin, end in windows]


class Course:
    """The barring gates of a crossed road, its base steps, and its places and times as whole numbers of units."""

    def __init__(self, road):
        self.bars = crossed_gates(road)
        self.base = steps(road)
        opened = [first_windows(gate) for gate in self.bars]
        ends = [end for period, windows in opened for pair in windows for end in pair]
        self.time_unit = common_denominator(ends + [period for period, windows in opened])
        self.length_unit = common_denominator([gate[0] for gate in self.bars])
        self.spots = [whole(gate[0], self.length_unit) for gate in self.bars]
        self.cycles = [whole(period, self.time_unit) for period, windows in opened]
        self.slots = [whole_windows(windows, self.time_unit) for period, windows in opened]
        wide, shift, high = turns(road)
        self.firsts = wide * len(self.slots[0])
        self.seconds = high * len(self.slots[1])

    def window_ends(self, at, number):
        """Return the begin and the end of a window of the gate with the number at."""
        slots = self.slots[at]
        periods, slot = divmod(number, len(slots))
        begin, end = slots[slot]
        return (begin + periods * self.cycles[at], end + periods * self.cycles[at])

    def row_ends(self, row):
        """Return the begin and the end of each window of a row."""
        return [self.window_ends(at, number) for at, number in enumerate(row)]

    def first_ending(self, at, moment):
        """Return the number of the first window of a gate that does not end before a moment."""
        num, den = moment
        slots, cycle = self.slots[at], self.cycles[at] * den
        return min([k - len(slots) * ((end * den - num) // cycle) for k, (begin, end) in enumerate(slots)])

    def last_beginning(self, at, moment):
        """Return the number of the last window of a gate that does not begin after a moment."""
        num, den = moment
        slots, cycle = self.slots[at], self.cycles[at] * den
        return max([k + len(slots) * ((num - begin * den) // cycle) for k, (begin, end) in enumerate(slots)])


def gate_pairs(many):
    """Return the pairs (i, k) with 0 <= i < k < many."""
    return [(one, two) for two in range(many) for one in range(two)]


def lowest(course, ends, pair, at):
    """Return the earliest moment at a later gate that the windows of a pair of gates leave."""
    one, two = pair
    spots = course.spots
    num = (spots[at] - spots[one]) * ends[two][0] - (spots[at] - spots[two]) * ends[one][1]
    return (num, spots[two] - spots[one])


def highest(course, ends, pair, at):
    """Return the latest moment at a later gate that the windows of a pair of gates leave."""
    one, two = pair
    spots = course.spots
    num = (spots[at] - spots[one]) * ends[two][1] - (spots[at] - spots[two]) * ends[one][0]
    return (num, spots[two] - spots[one])


def low_pair(course, ends, at):
    """Return the pair of gates whose lowest moment at a later gate is the latest, and that moment."""
    best = (0, 1)
    moment = lowest(course, ends, best, at)
    for pair in gate_pairs(at):
        other = lowest(course, ends, pair, at)
        if is_less(moment, other):
            best, moment = pair, other
    return (best, moment)


def high_pair(course, ends, at):
    """Return the pair of gates whose highest moment at a later gate is the earliest, and that moment."""
    best = (0, 1)
    moment = highest(course, ends, best, at)
    for pair in gate_pairs(at):
        other = highest(course, ends, pair, at)
        if is_less(other, moment):
            best, moment = pair, other
    return (best, moment)


def following(course, row):
    """Return (low pair, high pair, first, many) for a row that some walker passes.

    That walker passes the next gate within one of so many windows from the first on, and each of them is passed.
    """
    # Convex shapes in the plane meet if any three do, so pairs of gates tell all about the next one.
    at = len(row)
    ends = course.row_ends(row)
    low, earliest = low_pair(course, ends, at)
    high, latest = high_pair(course, ends, at)
    first = course.first_ending(at, earliest)
    return (low, high, first, max(0, course.last_beginning(at, latest) + 1 - first))
