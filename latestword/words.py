"""Words of texts and lines: numbers, and numbers with commas between."""

MOST_FIGURES = 9
FIGURES = "0123456789"
NO_NUMBERS = "-"


def is_number_word(word):
    """Whether a word is a decimal number of few figures, without a sign and needless zeros."""
    if not 1 <= len(word) <= MOST_FIGURES or not all([sign in FIGURES for sign in word]):
        return False
    return word == "0" or word[0] != "0"


def is_numbers_word(word):
    """Whether a word is some numbers with commas between, or the one for none."""
    return word == NO_NUMBERS or all([is_number_word(part) for part in word.split(",")])


def numbers_in(word):
    """The tuple of the numbers that a word tells."""
    if word == NO_NUMBERS:
        return ()
    return tuple([int(part) for part in word.split(",")])


def numbers_word(numbers):
    """The word that tells some numbers."""
    if len(numbers) == 0:
        return NO_NUMBERS
    return ",".join([str(number) for number in numbers])
