"""Comings and servings, done one behind the other."""

from letinrow.coming import let_in
from letinrow.errors import BadDeed
from letinrow.people import is_name


def reads_as_deed(thing):
    """Whether a thing is a deed, or one handed in as a list."""
    if not isinstance(thing, (list, tuple)):
        return False
    if len(thing) == 1:
        return thing[0] == "serve"
    return len(thing) == 2 and thing[0] == "come" and is_name(thing[1])


def can_be_done(deed, row, been):
    """Whether a deed can be done to the row, been having all as keys who were ever in it."""
    if deed[0] == "serve":
        return len(row) > 0
    return deed[1] not in been


def done(friends, deeds, *, row=()):
    """The pair of who was served and the ROW at the end, beginning with that row."""
    served = ()
    here = tuple(row)
    been = {who: True for who in here}
    for number, deed in enumerate(deeds):
        if not reads_as_deed(deed) or not can_be_done(deed, here, been):
            raise BadDeed(number)
        if deed[0] == "serve":
            served = served + here[:1]
            here = here[1:]
        else:
            here = let_in(friends, here, deed[1])
            been[deed[1]] = True
    return (served, here)
