"""What plain values are: integers, people, what is ascending."""

from stillfound.errors import NoPerson


def is_integer(thing):
    """Whether a thing is an integer; a flag is none, though Python says so."""
    return isinstance(thing, int) and not isinstance(thing, bool)


def is_between(thing, least, most):
    """Whether a thing is an integer from the least to the most."""
    return is_integer(thing) and least <= thing <= most


def is_person(thing, many):
    """Whether a thing is one of so many people."""
    return is_between(thing, 0, many - 1)


def check_person(thing, many):
    """Raise NoPerson for what is none of so many people."""
    if not is_person(thing, many):
        raise NoPerson()


def is_ascending(row):
    """Whether each item of a row is lesser than the next one."""
    return all([row[k] < row[k + 1] for k in range(len(row) - 1)])
