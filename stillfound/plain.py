"""What plain values are: integers, people, what is ascending."""


def is_integer(thing):
    """Whether a thing is an integer; a flag is none, though Python says so."""
    return isinstance(thing, int) and not isinstance(thing, bool)


def is_person(thing, many):
    """Whether a thing is one of so many people."""
    return is_integer(thing) and 0 <= thing < many


def is_ascending(row):
    """Whether each item of a row is lesser than the next one."""
    return all([row[k] < row[k + 1] for k in range(len(row) - 1)])
