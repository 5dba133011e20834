"""Programs, written as texts."""

from furrow.deeds import nested
from furrow.terms import Cell, Joined, Number


def written(program):
    size = program.size
    rows = [f"size {size}"]
    rows.extend(written_items(program.deeds, nested(program.deeds), 0))
    return "\n".join(rows)


def written_items(deeds, items, depth):
    blanks = " " * depth
    rows = []
    for k, inner in items:
        if inner is None:
            rows.append(blanks + written_deed(deeds[k]))
        else:
            rows.append(blanks + written_loop(deeds[k], depth))
            rows.extend(written_items(deeds, inner, depth + 1))
            rows.append(blanks + "end")
    return rows


def written_loop(deed, e):
    name = deed.names[e]
    low = written_spot(deed.lows[e])
    high = written_spot(deed.highs[e])
    return f"for {name} {low} {high}"


def written_deed(deed):
    cell = written_cell(deed.table, deed.spots)
    term = written_term(deed.term)
    return f"{cell} = {term}"


def written_cell(table, spots):
    return table + "".join(["[" + written_spot(spot) + "]" for spot in spots])


def written_spot(spot):
    name = spot[0]
    n = spot[1]
    if name == "":
        return str(n)
    if n == 0:
        return name
    if n > 0:
        return f"{name}+{n}"
    # A number below nought brings its own sign.
    return f"{name}{n}"


def written_term(term):
    if isinstance(term, Joined):
        left = bracketed(term.left, left_needs(term))
        right = bracketed(term.right, right_needs(term))
        return left + term.sign + right
    if isinstance(term, Number):
        return str(term.n)
    if isinstance(term, Cell):
        return written_cell(term.table, term.spots)
    return term.name


def bracketed(term, needed):
    text = written_term(term)
    if needed:
        return f"({text})"
    return text


def left_needs(term):
    return term.sign == "*" and is_sum(term.left)


def right_needs(term):
    # What is read goes from the left, so a right part of like strength would
    # come apart.
    if term.sign == "*":
        return isinstance(term.right, Joined)
    return is_sum(term.right)


def is_sum(term):
    return isinstance(term, Joined) and term.sign != "*"
