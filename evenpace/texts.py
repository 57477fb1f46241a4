"""Texts of gates, roads and yards."""

from evenpace.errors import ParseError
from evenpace.gates import is_gate, normal_gate
from evenpace.rationals import is_less, parse_fraction
from evenpace.roads import MAX_GATES, Road
from evenpace.yard import MAX_ROADS, is_name, yard_of


def parse_span(word):
    """Return the pair (begin, length) that a word writes."""
    begin, plus, length = word.partition("+")
    return (parse_fraction(begin), parse_fraction(length))


def parse_gate(text):
    """Return the gate that a text writes."""
    words = text.split(" ")
    if len(words) < 3 or words[1] != "every":
        raise ParseError(0)
    spans = tuple([parse_span(word) for word in words[3:]])
    gate = (parse_fraction(words[0]), parse_fraction(words[2]), spans)
    if not is_gate(gate) or normal_gate(gate) != gate:
        raise ParseError(0)
    return gate


def gate_in_row(row, position):
    """Return the gate that a row of a longer text writes."""
    try:
        return parse_gate(row)
    except ParseError:
        raise ParseError(position) from None


def with_next_gate(gates, row, position):
    """Return the gates of a road with the one of its next row."""
    gate = gate_in_row(row, position)
    if len(gates) == MAX_GATES:
        raise ParseError(position)
    if len(gates) > 0 and not is_less(gates[-1][0], gate[0]):
        raise ParseError(position)
    return [*gates, gate]


def check_end(rows):
    """Raise ParseError if text follows the last line feed; that text is the last one of the rows."""
    if rows[-1] != "":
        raise ParseError(len(rows) - 1)


def parse_road(text):
    """Return the road that a text writes."""
    rows = text.split("\n")
    gates = []
    for position, row in enumerate(rows[:-1]):
        gates = with_next_gate(gates, row, position)
    check_end(rows)
    return Road(gates)


def format_yard(yard):
    """Return the text of a yard."""
    return "".join([f"road {name}\n{str(yard.road(name))}" for name in yard.names()])


def name_in_row(row):
    """Return the name in a row that begins a road, or None."""
    word, space, name = row.partition(" ")
    return name if word == "road" and is_name(name) else None


def check_next_name(blocks, name, position):
    """Raise ParseError if a row may not begin a road of this name."""
    if len(blocks) == MAX_ROADS:
        raise ParseError(position)
    if len(blocks) > 0 and name <= max(list(blocks)):
        raise ParseError(position)


def parse_yard(text):
    """Return the yard that a text writes."""
    rows = text.split("\n")
    blocks = {}
    last = None
    for position, row in enumerate(rows[:-1]):
        name = name_in_row(row)
        if name is not None:
            check_next_name(blocks, name, position)
            blocks[name] = []
            last = name
        elif last is None:
            raise ParseError(position)
        else:
            blocks[last] = with_next_gate(blocks[last], row, position)
    check_end(rows)
    return yard_of({name: Road(blocks[name]) for name in blocks})
