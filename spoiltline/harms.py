"""The harm of many errors, exactly, with a passing that does it and a paper that shows that none does more."""

from spoiltline.ceilings import Paper, is_form, paper_of
from spoiltline.checks import is_count
from spoiltline.courses import Courses
from spoiltline.endless import least_of
from spoiltline.errors import Endless, InvalidCount
from spoiltline.pairs import Pairs
from spoiltline.rows import Search
from spoiltline.worsts import passing_along

# How often courses are gone on with before better lags are looked for.
TIMES = 300


def harm(decoder, kinds, many):
    """The harm of many errors, or None if it is endless."""
    pairs = checked_pairs(decoder, kinds, [many])
    if is_boundless(pairs, many):
        return None
    return searched(pairs, many).harm


def worst(decoder, kinds, many):
    """A passing with at most so many errors of these kinds that does the harm; () if no line is accepted."""
    pairs = checked_pairs(decoder, kinds, [many])
    check_bound(pairs, many)
    search = searched(pairs, many)
    if search.last is None:
        return ()
    return passing_along(pairs, search.gaps_of_last(), search.harm)


def ceiling(decoder, kinds, many):
    """A ceiling of the harm."""
    pairs = checked_pairs(decoder, kinds, [many])
    check_bound(pairs, many)
    return paper_of(searched(pairs, many))


def is_ceiling(decoder, kinds, many, number, value):
    """Whether the value is a ceiling of the number."""
    pairs = checked_pairs(decoder, kinds, [many, number])
    if is_boundless(pairs, many) or not is_form(pairs, many, number, value):
        return False
    return Paper(pairs, many, number, value).holds()


def checked_pairs(decoder, kinds, counts):
    pairs = Pairs(decoder, kinds)
    for count in counts:
        if not is_count(count):
            raise InvalidCount(count)
    return pairs


def is_boundless(pairs, many):
    least = least_of(pairs)
    return least is not None and least <= many


def check_bound(pairs, many):
    if is_boundless(pairs, many):
        raise Endless(least_of(pairs))


def searched(pairs, many):
    """The search for the harm of many errors, done."""
    courses = Courses(pairs, many)
    search = Search(courses)
    if not search.run(TIMES):
        # Better lags make the bounds lower, and most that is gone on with needless.
        courses.choose_better()
        search = Search(courses)
        search.run(None)
    return search
