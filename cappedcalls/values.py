"""Integers, words and values, and the order of tuples of values."""

LONGEST_WORD = 8
GREATEST_VALUE = 10 ** 30 - 1


def is_plain_int(thing):
    """Return True if the thing is an integer; True and False are none."""
    return isinstance(thing, int) and not isinstance(thing, bool)


def is_word(thing):
    """Return True if the thing is a string of 1 to 8 letters from a to z."""
    if not isinstance(thing, str) or not 1 <= len(thing) <= LONGEST_WORD:
        return False
    # isalpha and islower would let letters of other alphabets pass.
    return all(["a" <= letter <= "z" for letter in thing])


def is_value(thing):
    """Return True if the thing is a word or an integer that is not too large."""
    if is_plain_int(thing):
        return -GREATEST_VALUE <= thing <= GREATEST_VALUE
    return is_word(thing)


def are_values(thing, many):
    """Return True if the thing is a tuple of exactly so many values."""
    return isinstance(thing, tuple) and len(thing) == many and all([is_value(part) for part in thing])


def columns_of(row, columns):
    """Return the tuple of the parts of a tuple at these columns, in their order."""
    return tuple([row[column] for column in columns])


def row_key(row):
    """Return a key for a tuple of values, by which Python sorts it as the document asks.

    Python does not compare integers with strings. The mark before each part
    keeps it from doing so: integers have the lesser mark.
    """
    return tuple([(isinstance(part, str), part) for part in row])


def sorted_rows(rows):
    """Return the tuples of values in a list, sorted and without duplicates."""
    different = {row: True for row in rows}
    return sorted(list(different), key=row_key)


def spare_numbers(taken, many):
    """Return so many integers from 0 on that are no keys of a dict."""
    return [number for number in range(many + len(taken)) if number not in taken][:many]
