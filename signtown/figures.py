"""Numbers as words of texts, just as str writes them."""

from signtown.names import is_need

DIGITS = "0123456789"
NEED_DIGITS = 2


def is_number_word(word, most):
    """Whether a word is an integer of at most so many digits."""
    digits = word.removeprefix("-")
    if not 1 <= len(digits) <= most or not all([digit in DIGITS for digit in digits]):
        return False
    # int takes words such as 01 and -0, too, which str never writes.
    return str(int(word)) == word


def is_need_word(word):
    """Whether a word is a need."""
    return is_number_word(word, NEED_DIGITS) and is_need(int(word))
