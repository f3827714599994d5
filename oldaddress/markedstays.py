"""Marked stays: one address for several of them, as those who come late with another mark are led on."""

from oldaddress.latestays import check_from_one
from oldaddress.spans import most_at_once
from oldaddress.stays import bound_spans, lots_by_number, numbers_told, told_stays


def lying_spans(stays):
    return [(begin, end) for begin, end, life in stays]


def can_share(stays, many, marks):
    """Whether on no day more stays lie than there are addresses, nor are more bound than these have marks."""
    if most_at_once(lying_spans(stays)) > many:
        return False
    return most_at_once(bound_spans(stays)) <= many * marks


def is_marked_giving(stays, many, marks, thing):
    """Whether any object gives to each stay one of so many addresses, with so many marks at each."""
    told = told_stays(stays)
    check_from_one(many)
    check_from_one(marks)
    numbers = numbers_told(told, many, thing)
    if numbers is None:
        return False
    return all([can_share(lot, 1, marks) for lot in lots_by_number(told, numbers)])


def goes_on(stays, numbers, number, marks):
    """Whether the stay behind those that have numbers can get a number, too."""
    lot = [stay for stay, given in zip(stays, numbers) if given == number]
    return can_share([*lot, stays[len(numbers)]], 1, marks)


def first_marked_giving(stays, many, marks):
    """The first marked giving as lists compare, None if there is none."""
    if not can_share(stays, many, marks):
        return None
    numbers = []
    number = 0
    while len(numbers) < len(stays):
        # Of the addresses that nobody has yet one is as good as another.
        behind = min(many, max([-1, *numbers]) + 2)
        while number < behind and not goes_on(stays, numbers, number, marks):
            number += 1
        if number < behind:
            numbers.append(number)
            number = 0
        elif numbers:
            number = numbers.pop() + 1
        else:
            return None
    return numbers


def marked_giving(stays, many, marks):
    """The first marked giving as lists compare, None if there is none."""
    told = told_stays(stays)
    check_from_one(many)
    check_from_one(marks)
    return first_marked_giving(told, many, marks)


def marks_for(stays, many):
    """The least number of marks with which there is a marked giving, None if there is none with any."""
    told = told_stays(stays)
    check_from_one(many)
    # With a mark for each stay just those that lie there count.
    for marks in range(1, max(1, len(told)) + 1):
        if first_marked_giving(told, many, marks) is not None:
            return marks
    return None
