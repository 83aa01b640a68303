"""Sequences and alignments: what they are, their order, their texts, how many there are."""

from rightfares.errors import RightfaresError

# The numbers are in the order of the kinds, so that lists of kinds compare as alignments do.
MATCH = 0
DELETION = 1
INSERTION = 2

MOST_LETTERS = 6


def has_only_letters(text):
    """True if each character of a string is one from a to z."""
    return all("a" <= sign <= "z" for sign in text)


def is_sequence(thing):
    """True if anything that is passed is a sequence."""
    return isinstance(thing, str) and len(thing) <= MOST_LETTERS and has_only_letters(thing)


def is_row(thing):
    """True if anything that is passed may be a row of an alignment."""
    return isinstance(thing, str) and is_sequence(without_dashes(thing))


def is_alignment(thing):
    """True if anything that is passed is an alignment."""
    if not isinstance(thing, tuple) or len(thing) != 2:
        return False
    first_row, second_row = thing
    if not is_row(first_row) or not is_row(second_row) or len(first_row) != len(second_row):
        return False
    return all([top != "-" or bottom != "-" for top, bottom in zip(first_row, second_row)])


def without_dashes(row):
    """The letters of a row, in their order."""
    return row.replace("-", "")


def sequences_of(alignment):
    """The pair of the sequences of an alignment."""
    first_row, second_row = alignment
    return (without_dashes(first_row), without_dashes(second_row))


def kind_of(top, bottom):
    """The kind of a column with these two characters."""
    if bottom == "-":
        return DELETION
    if top == "-":
        return INSERTION
    return MATCH


def kinds_of(alignment):
    """The kinds of the columns of an alignment."""
    first_row, second_row = alignment
    return [kind_of(top, bottom) for top, bottom in zip(first_row, second_row)]


def comes_before(one, two):
    """True if an alignment comes before another one of the same sequences."""
    if sequences_of(one) != sequences_of(two):
        raise RightfaresError("different sequences")
    # The kinds of one are never a mere beginning of those of the other, as both use up the same letters.
    return kinds_of(one) < kinds_of(two)


def mark_of(top, bottom):
    """The mark between the two characters of a column."""
    if kind_of(top, bottom) != MATCH:
        return " "
    if top == bottom:
        return "|"
    return "."


def text_of(alignment):
    """The text of an alignment: a row, the marks, a row."""
    first_row, second_row = alignment
    marks = "".join([mark_of(top, bottom) for top, bottom in zip(first_row, second_row)])
    return "\n".join([first_row, marks, second_row])


def read_alignment(text):
    """The alignment that has this text."""
    if isinstance(text, str):
        lines = text.split("\n")
        alignment = (lines[0], lines[-1])
        # Writing it again also finds wrong marks and a wrong number of lines.
        if is_alignment(alignment) and text_of(alignment) == text:
            return alignment
    raise RightfaresError("no alignment")


def number_of_alignments(first, second):
    """How many alignments two sequences have."""
    numbers = [1] * (len(second) + 1)
    for _ in first:
        numbers = with_one_letter_more(numbers)
    return numbers[-1]


def with_one_letter_more(numbers):
    """The numbers of alignments with each beginning of the second sequence, for one more letter of the first."""
    longer = [1]
    for k in range(1, len(numbers)):
        # The last column is a match, a deletion or an insertion.
        longer.append(numbers[k - 1] + numbers[k] + longer[k - 1])
    return longer
