"""What a word of a text may be by its signs: a name, or a number."""

FIGURES = "0123456789"
NAME_SIGNS = "abcdefghijklmnopqrstuvwxyz0123456789"
LONGEST_NAME = 8


# Asked sign by sign: isdigit and its like also take signs of other scripts.
def made_of(word, signs):
    return all([sign in signs for sign in word])


def is_name(word):
    return 1 <= len(word) <= LONGEST_NAME and made_of(word, NAME_SIGNS)


def number_by(word, most):
    # The length is bounded ahead of int, which fails on texts of thousands of figures.
    if word == "" or len(word) > len(str(most)) or not made_of(word, FIGURES):
        return None
    if word[0] == "0" and word != "0":
        return None
    number = int(word)
    return number if number <= most else None
