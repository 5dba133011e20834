"""How numbers, names and spots are written."""

FIGURES = "0123456789"
LETTERS = "abcdefghijklmnopqrstuvwxyz"
MOST_FIGURES = 18
MOST_LETTERS = 8
ROW_WORDS = ("for", "end", "size")


def made_of(text, signs):
    # Not isdigit or islower: those take signs of other scripts too.
    return all([sign in signs for sign in text])


def number_of(text):
    if text == "" or len(text) > MOST_FIGURES or not made_of(text, FIGURES):
        return None
    if text[0] == "0" and text != "0":
        return None
    return int(text)


def is_name(text):
    if text == "" or len(text) > MOST_LETTERS:
        return False
    return made_of(text, LETTERS) and text not in ROW_WORDS


def spot_of(text):
    if is_name(text):
        return (text, 0)
    number = number_of(text)
    if number is not None:
        return ("", number)
    if "+" in text:
        return risen(text.partition("+"))
    return fallen(text.partition("-"))


def risen(parts):
    number = number_of(parts[2])
    if number is None or not is_name(parts[0]):
        return None
    return (parts[0], number)


def fallen(parts):
    number = number_of(parts[2])
    if number is None:
        return None
    if is_name(parts[0]) or (parts[0] == "" and number > 0):
        return (parts[0], -number)
    return None


def bare_row(row):
    return row.partition(";")[0].strip(" ")


def words_of(row):
    return [word for word in row.split(" ") if word != ""]
