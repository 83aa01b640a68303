"""Plain enumerations to hold the program against; they use nothing of the program."""

from itertools import product

# All sequences of at most two letters over a, b, c, and a few longer ones.
SHORT = ["".join(letters) for length in range(3) for letters in product("abc", repeat=length)]
LONGER = ["abc", "cab", "aab", "bba"]


def every_alignment(first, second):
    """All alignments of two sequences, in their order: match before deletion before insertion."""
    if not first and not second:
        return [("", "")]
    found = []
    if first and second:
        found += [(first[0] + one, second[0] + two) for one, two in every_alignment(first[1:], second[1:])]
    if first:
        found += [(first[0] + one, "-" + two) for one, two in every_alignment(first[1:], second)]
    if second:
        found += [("-" + one, second[0] + two) for one, two in every_alignment(first, second[1:])]
    return found


def plain_counts(groups, gaps, sides, alignment):
    """The counts of an alignment, told from its rows as the table of point 6 says."""
    columns = list(zip(*alignment))
    words = ["D" if b == "-" else "I" if a == "-" else "M" for a, b in columns]
    unlike = [(a, b) for a, b in columns if "-" not in (a, b) and a != b]
    near = [(a, b) for a, b in unlike if [group for group in groups if a in group and b in group]]
    runs = "".join(words)
    starts = len([k for k in range(len(runs)) if runs[k] != "M" and (k == 0 or runs[k] != runs[k - 1])])
    counts = [len(near)] if groups else []
    counts.append(len(unlike) - len(near))
    if gaps:
        counts.append(starts)
    if sides:
        return counts + [words.count("D"), words.count("I")]
    return counts + [words.count("D") + words.count("I")]
