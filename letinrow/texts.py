"""Friends and rows as texts, and back."""

from letinrow.errors import BadText
from letinrow.people import is_friends, is_row

NOBODY = "-"


def by_blanks(words):
    """The words parted by one blank each, the sign for nobody where there are none."""
    return " ".join(words) if words else NOBODY


def words_in(text):
    """The list of words of which a text was made so; of other texts some of these are no right words."""
    return [] if text == NOBODY else text.split(" ")


def friends_text(friends):
    """The text of FRIENDS."""
    return by_blanks([f"{one}-{other}" for one, other in friends])


def friends_in(text):
    """The FRIENDS of which it's the text."""
    friends = tuple([tuple(word.split("-")) for word in words_in(text)])
    if not is_friends(friends):
        raise BadText(text)
    return friends


def row_text(row):
    """The text of a ROW."""
    return by_blanks(row)


def row_in(text):
    """The ROW of which it's the text."""
    row = tuple(words_in(text))
    if not is_row(row):
        raise BadText(text)
    return row
