"""How the best counts change along a line from some costs to others."""

from rightfares.counted import possible_counts
from rightfares.linear import without_divisor
from rightfares.schemes import cost_of_counts


def turns(scheme, first, second, start, end):
    """The turns from some costs to others, and for each piece between them the counts that are best in it."""
    courses = counts_by_course(scheme, first, second, start, end)
    # Directly behind the start the least course is best: of those that cost least there the one that ends lowest.
    course = min(list(courses))
    found = []
    pieces = [courses[course]]
    behind = course_behind(courses, course)
    while behind is not None:
        found.append(turn_between(course, behind))
        pieces.append(courses[behind])
        course = behind
        behind = course_behind(courses, course)
    return (found, pieces)


def counts_by_course(scheme, first, second, start, end):
    """The possible counts, ascending, by their courses: the pairs of what they cost at the start and at the end."""
    courses = {}
    for counts in possible_counts(scheme, first, second):
        course = (cost_of_counts(counts, start), cost_of_counts(counts, end))
        courses.setdefault(course, []).append(counts)
    return courses


def course_behind(courses, course):
    """The course that is best directly behind the piece of another one; None if that piece goes up to the end."""
    best = None
    for other in courses:
        # What ends no lower never gets cheaper behind the piece; what ends lower is dearer at the start, or it would
        # have been the best before.
        if other[1] < course[1] and (best is None or takes_over_before(course, other, best)):
            best = other
    return best


def takes_over_before(course, one, other):
    """True if one gets cheaper than a course before another one does, or at the same place and falls deeper."""
    # The turn of a course and one that is a dearer at the start and b cheaper at the end is a / (a + b).
    earlier = (one[0] - course[0]) * (course[1] - other[1])
    later = (other[0] - course[0]) * (course[1] - one[1])
    return earlier < later or (earlier == later and one[1] < other[1])


def turn_between(course, behind):
    """The fraction, in lowest terms, at which two courses cost the same."""
    above = behind[0] - course[0]
    below = course[1] - behind[1]
    return tuple(without_divisor([above, above + below]))
