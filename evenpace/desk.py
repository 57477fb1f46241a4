"""Desks: answers to lines of text about a yard."""

from evenpace.errors import EmptyHistory, NotFound, PaceError, ParseError
from evenpace.gates import format_gate
from evenpace.pieces import share
from evenpace.rationals import format_fraction, is_natural, parse_fraction
from evenpace.shadows import is_inside, needless, tightest
from evenpace.starts import count_starts, first_start
from evenpace.texts import parse_gate
from evenpace.yard import SIZES, Yard

MAX_COUNT_DIGITS = 18
FORMS = {
    "road": ("name", "gates"),
    "put": ("name", "gate"),
    "replace": ("name", "gate"),
    "drop": ("name",),
    "strike": ("name", "fraction"),
    "delay": ("name", "fraction", "fraction"),
    "join": ("name", "name", "name"),
    "undo": (),
    "redo": (),
    "names": (),
    "passes": ("name", "fraction", "fraction"),
    "share": ("name",),
    "pieces": ("name",),
    "first": ("name", "fraction", "fraction"),
    "count": ("name", "fraction", "number"),
    "inside": ("name", "name"),
    "needless": ("name",),
    "tight": ("name",)}


def parse_gates(text):
    """Return the gates that a text writes in any order."""
    if text == "none":
        return []
    return [parse_gate(part) for part in text.split("; ")]


def parse_number(text):
    """Return the natural number that a text writes."""
    if not is_natural(text) or len(text) > MAX_COUNT_DIGITS:
        raise ParseError(0)
    return int(text)


def parse_part(kind, text):
    """Return what a part of a line means."""
    if kind == "fraction":
        return parse_fraction(text)
    if kind == "gate":
        return parse_gate(text)
    if kind == "gates":
        return parse_gates(text)
    return parse_number(text) if kind == "number" else text


def line_parts(words, form):
    """Return the words behind the first one; those of gates are one part."""
    if "gate" in form or "gates" in form:
        return words[1:2] + [" ".join(words[2:])] if len(words) > 2 else []
    return words[1:]


def parse_line(line):
    """Return the tuple of the first word and of what the others mean; ParseError if the line has no form of these."""
    words = line.split(" ")
    form = FORMS.get(words[0])
    if form is None or "" in words:
        raise ParseError(0)
    parts = line_parts(words, form)
    if len(parts) != len(form):
        raise ParseError(0)
    return (words[0], *[parse_part(kind, part) for kind, part in zip(form, parts)])


def listed(texts):
    """Return the text of a list."""
    return ", ".join(texts) if len(texts) > 0 else "none"


def answer_undo(yard, asked):
    """Answer `undo`."""
    yard.undo()
    return "ok"


def answer_redo(yard, asked):
    """Answer `redo`."""
    yard.redo()
    return "ok"


def answer_names(yard, asked):
    """Answer `names`."""
    return listed(yard.names())


def answer_passes(yard, asked):
    """Answer `passes NAME START SLOWNESS`."""
    verb, name, start, slowness = asked
    place = yard.road(name).first_shut((start, slowness))
    return "yes" if place is None else "no " + format_fraction(place)


def answer_share(yard, asked):
    """Answer `share NAME`."""
    return format_fraction(share(yard.road(asked[1])))


def answer_pieces(yard, asked):
    """Answer `pieces NAME`."""
    return str(len(yard.pieces(asked[1])))


def answer_first(yard, asked):
    """Answer `first NAME SLOWNESS SINCE`."""
    verb, name, slowness, since = asked
    start = first_start(yard.road(name), slowness, since=since)
    return "never" if start is None else format_fraction(start)


def answer_count(yard, asked):
    """Answer `count NAME SLOWNESS NUMBER`."""
    verb, name, slowness, number = asked
    return str(count_starts(yard.road(name), slowness, number))


def answer_inside(yard, asked):
    """Answer `inside NAME NAME`."""
    verb, name, other = asked
    road = yard.road(name)
    return "yes" if is_inside(road, yard.road(other)) else "no"


def answer_needless(yard, asked):
    """Answer `needless NAME`."""
    return listed([format_fraction(place) for place in needless(yard.road(asked[1]))])


def answer_tight(yard, asked):
    """Answer `tight NAME`."""
    gates = tightest(yard.road(asked[1]))
    return "nobody" if gates is None else listed([format_gate(gate) for gate in gates])


ANSWERS = {
    "undo": answer_undo, "redo": answer_redo, "names": answer_names, "passes": answer_passes, "share": answer_share,
    "pieces": answer_pieces, "first": answer_first, "count": answer_count, "inside": answer_inside,
    "needless": answer_needless, "tight": answer_tight}


def answered(yard, asked):
    """Return the answer to a line that has a form of these."""
    if asked[0] in SIZES:
        yard.apply(asked)
        return "ok"
    action = ANSWERS[asked[0]]
    return action(yard, asked)


class Desk:
    """A desk for one yard, which others may use as well."""

    def __init__(self, *, shared=None):
        self.subject = Yard() if shared is None else shared

    def yard(self):
        """Return the yard itself."""
        return self.subject

    def ask(self, line):
        """Apply a line and return its answer."""
        try:
            asked = parse_line(line)
        except ParseError:
            return "what"
        try:
            return answered(self.subject, asked)
        except (PaceError, NotFound, EmptyHistory) as wrong:
            return "error " + wrong.tag
