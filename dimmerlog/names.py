"""The checks of names that all modules share."""

from dimmerlog.errors import DuplicateName, InvalidName, UnknownName

LONGEST = 12
SIGNS = "abcdefghijklmnopqrstuvwxyz0123456789"


def is_name(value):
    """Tell whether the value is a valid name."""
    if not isinstance(value, str) or not 1 <= len(value) <= LONGEST:
        return False
    return all([sign in SIGNS for sign in value])


def check_name(name):
    """Raise InvalidName unless the name is valid."""
    if not is_name(name):
        raise InvalidName(name)


def check_new(name, earlier):
    """Raise InvalidName or DuplicateName unless the name is valid and none of the earlier ones."""
    check_name(name)
    if name in earlier:
        raise DuplicateName(name)


def check_known(name, names):
    """Raise UnknownName unless the name is one of the names."""
    # Any value may be passed as a name. Only a string is looked for, because
    # another value may not be able to be a key, or may claim to equal a name.
    if not isinstance(name, str) or name not in names:
        raise UnknownName(name)


def check_all_known(chosen, names):
    """Raise UnknownName for the first chosen name that is none of the names."""
    for name in chosen:
        check_known(name, names)


def distinct_names(names):
    """Return the names as a tuple; raise InvalidName or DuplicateName for the first wrong one."""
    found = []
    for name in names:
        check_new(name, found)
        found.append(name)
    return tuple(found)
