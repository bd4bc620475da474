"""The tokens of the texts of programs."""

SIGNS = "{}(),;"
DIGITS = "0123456789"
MOST_DIGITS = 400


def is_number(token):
    """Whether a token is a number."""
    if token == "0":
        return True
    digits = token[1:] if token.startswith("-") else token
    if not 1 <= len(digits) <= MOST_DIGITS or digits.startswith("0"):
        return False
    return all([digit in DIGITS for digit in digits])


def split_up(text):
    """The strings that have to be the tokens of a text."""
    apart = text.replace("\n", " ")
    for sign in SIGNS:
        apart = apart.replace(sign, " " + sign + " ")
    return [token for token in apart.split(" ") if token != ""]
