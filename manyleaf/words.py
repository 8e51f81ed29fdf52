"""Whether a thing, of whatever kind, is a whole number, a word, a part's name, a text or a rank."""

GREATEST_RANK = 1000000000
LONGEST_TEXT = 60
MOST_FIGURES = 10

# By its number, as the sign itself does not stand in a text of the program.
PERCENT_SIGN = 37


def is_whole(thing):
    return isinstance(thing, int) and not isinstance(thing, bool)


def is_word(thing):
    return has_length(thing, 1, 8) and all([is_letter(sign) for sign in thing])


def is_name(thing):
    return has_length(thing, 1, 12) and all([is_name_sign(sign) for sign in thing])


def is_text(thing):
    return has_length(thing, 0, LONGEST_TEXT) and all([is_text_sign(sign) for sign in thing])


def is_rank(thing):
    return is_whole(thing) and 0 <= thing <= GREATEST_RANK


# None for what is no number written so; no number that counts anywhere has more figures.
def read_number(text):
    if not 1 <= len(text) <= MOST_FIGURES or not all([is_figure(sign) for sign in text]):
        return None
    if text.startswith("0") and text != "0":
        return None
    return int(text)


def has_length(thing, least, greatest):
    return isinstance(thing, str) and least <= len(thing) <= greatest


# The signs are compared one by one, as Python's own isalpha and isdigit take signs beyond ASCII too.
def is_letter(sign):
    return "a" <= sign <= "z"


def is_figure(sign):
    return "0" <= sign <= "9"


def is_name_sign(sign):
    return is_letter(sign) or is_figure(sign) or sign == "."


def is_text_sign(sign):
    return " " <= sign <= "~" and ord(sign) != PERCENT_SIGN
