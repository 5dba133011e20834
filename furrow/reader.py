"""Texts, read to programs."""

from furrow.deeds import Deed, Program
from furrow.errors import NoText
from furrow.terms import Cell, Joined, Number, Term, Value
from furrow.words import bare_row, is_name, number_of, spot_of, words_of

MOST_DEEDS = 6
MOST_LOOPS = 3
MOST_SPOTS = 3
LEAST_SIZE = 2
SIGNS = "+-*()"
# An open bracket binds nothing: what stands ahead of it waits for its end.
STRENGTHS = {"(": 0, "+": 1, "-": 1, "*": 2}


class Draft:
    def __init__(self):
        self.size = None
        self.deeds = []
        # How many spots each table has.
        self.tables = {}
        # The loops that stand open, from outside.
        self.names = []
        self.lows = []
        self.highs = []
        # At each depth the number that the next item there gets.
        self.path = [0]


def read(text):
    rows = text.split("\n")
    draft = Draft()
    for line, row in enumerate(rows, start=1):
        bare = bare_row(row)
        if bare != "" and not taken(draft, bare):
            raise NoText(line)
    if draft.size is None or draft.deeds == [] or draft.names != []:
        raise NoText(len(rows) + 1)
    return Program(draft.size, draft.deeds)


def taken(draft, row):
    words = words_of(row)
    if draft.size is None:
        return size_taken(draft, words)
    if words[0] == "for":
        return loop_taken(draft, words)
    if words[0] == "end":
        return end_taken(draft, words)
    # A second size row is the form of no item, though its blanks left out
    # might make a deed's row.
    return words[0] != "size" and deed_taken(draft, row.replace(" ", ""))


def size_taken(draft, words):
    if len(words) != 2 or words[0] != "size":
        return False
    size = number_of(words[1])
    if size is None or size < LEAST_SIZE:
        return False
    draft.size = size
    return True


def loop_taken(draft, words):
    if len(words) != 4 or len(draft.names) == MOST_LOOPS:
        return False
    if not is_name(words[1]) or words[1] in draft.names:
        return False
    low = spot_of(words[2])
    high = spot_of(words[3])
    # Asked while the loop isn't open: its bounds may not speak of itself.
    if low is None or high is None or not spots_known(draft, (low, high)):
        return False
    draft.names.append(words[1])
    draft.lows.append(low)
    draft.highs.append(high)
    draft.path.append(0)
    return True


def end_taken(draft, words):
    if len(words) != 1 or draft.names == [] or draft.path[-1] == 0:
        return False
    draft.names.pop()
    draft.lows.pop()
    draft.highs.pop()
    draft.path.pop()
    draft.path[-1] += 1
    return True


def deed_taken(draft, row):
    halves = row.partition("=")
    cell = cell_of(halves[0])
    parts = parts_of(halves[2])
    if len(draft.deeds) == MOST_DEEDS or cell is None or parts is None:
        return False
    term = term_of(parts)
    if term is None or not names_known(draft, [cell] + parts) or not tables_kept(draft, [cell] + parts):
        return False
    draft.deeds.append(Deed(tuple(draft.names), tuple(draft.lows), tuple(draft.highs),
                            cell.table, cell.spots, term, tuple(draft.path)))
    draft.path[-1] += 1
    return True


def names_known(draft, parts):
    for part in parts:
        if isinstance(part, Value) and part.name not in draft.names:
            return False
        if isinstance(part, Cell) and not spots_known(draft, part.spots):
            return False
    return True


def spots_known(draft, spots):
    return all([spot[0] == "" or spot[0] in draft.names for spot in spots])


def tables_kept(draft, parts):
    # From the left: the first cell of a table says how many spots it has.
    for part in parts:
        if isinstance(part, Cell):
            many = len(part.spots)
            if draft.tables.setdefault(part.table, many) != many:
                return False
    return True


def parts_of(text):
    parts = []
    at = 0
    while at < len(text):
        end = part_end(text, at)
        part = part_of(text[at:end])
        if part is None:
            return None
        parts.append(part)
        at = end
    return parts


def part_end(text, at):
    if text[at] in SIGNS:
        return at + 1
    # A + or - in a cell's brackets belongs to its spot.
    inside = False
    while at < len(text) and (inside or text[at] not in SIGNS):
        inside = text[at] == "[" or (inside and text[at] != "]")
        at += 1
    return at


def part_of(text):
    if text in SIGNS:
        return text
    if is_name(text):
        return Value(text)
    number = number_of(text)
    if number is not None:
        return Number(number)
    return cell_of(text)


def cell_of(text):
    parts = text.partition("[")
    if not is_name(parts[0]) or not parts[2].endswith("]"):
        return None
    spots = tuple([spot_of(inner) for inner in parts[2][:-1].split("][")])
    if len(spots) > MOST_SPOTS or not all([spot is not None for spot in spots]):
        return None
    return Cell(parts[0], spots)


def term_of(parts):
    terms = []
    signs = []
    due = True
    for part in parts:
        # Where a part of the term is due, a number, name, cell or open
        # bracket must stand, elsewhere none of them may.
        if due != (isinstance(part, Term) or part == "("):
            return None
        if isinstance(part, Term):
            terms.append(part)
            due = False
        elif part == ")":
            join_waiting(terms, signs, STRENGTHS["+"])
            if signs == []:
                return None
            signs.pop()
        else:
            if part != "(":
                join_waiting(terms, signs, STRENGTHS[part])
            signs.append(part)
            due = True
    # A sign at the end has no right part to be joined with.
    if due:
        return None
    join_waiting(terms, signs, STRENGTHS["+"])
    if signs != []:
        return None
    return terms[0]


def join_waiting(terms, signs, least):
    while signs != [] and STRENGTHS[signs[-1]] >= least:
        right = terms.pop()
        left = terms.pop()
        terms.append(Joined(signs.pop(), left, right))
