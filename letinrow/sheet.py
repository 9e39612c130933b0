"""A sheet: deeds and asks, a row each, done one by one to a Book."""

from letinrow.allorders import how_many
from letinrow.book import Book
from letinrow.early import earliest
from letinrow.errors import BadRow, BadText, Bare, Gone, Here, Known, Strange, Stuck
from letinrow.loose import left_over, loose_in
from letinrow.orders import order_of
from letinrow.people import is_row
from letinrow.texts import row_in, row_text


def tell_friend(book, names):
    book.befriend(names[0], names[1])
    return "done"


def tell_part(book, names):
    book.part(names[0], names[1])
    return "done"


def tell_come(book, names):
    return str(book.come(names[0]))


def tell_serve(book, names):
    return book.serve()


def tell_undo(book, names):
    return "yes" if book.undo() else "no"


def tell_row(book, names):
    return row_text(book.row())


def order_text(friends, row):
    """The row's order, or those who are left over where it has none."""
    word, thing = order_of(friends, row)
    if word == "order":
        return " ".join(["order"] + thing)
    return " ".join(["none"] + list(left_over(friends, row)))


def tell_order(book, names):
    return order_text(book.friends(), book.row())


def tell_loose(book, names):
    return row_text(loose_in(book.friends(), book.row()))


def tell_ways(book, names):
    return str(how_many(book.friends(), book.row()))


def tell_early(book, names):
    who = names[0]
    # Ahead of Stuck, which earliest is refused with.
    if who not in book.row():
        raise Gone(who)
    return str(earliest(book.friends(), book.row(), who))


def tell_host(book, names):
    host = book.host(names[0])
    return "none" if host is None else host


def tell_back(book, names):
    return str(book.put_back(names[0]))


def tell_seen(book, names):
    return order_text(book.friends(), row_in(" ".join(names)))


TELLERS = {
    "friend": tell_friend, "part": tell_part, "come": tell_come, "serve": tell_serve, "undo": tell_undo,
    "row": tell_row, "order": tell_order, "loose": tell_loose, "ways": tell_ways, "early": tell_early,
    "host": tell_host, "back": tell_back, "seen": tell_seen,
}
# How many NAMEs stand behind each word; seen has as many as there are.
NAMES_BEHIND = {
    "friend": 2, "part": 2, "come": 1, "serve": 0, "undo": 0, "row": 0, "order": 0, "loose": 0, "ways": 0,
    "early": 1, "host": 1, "back": 1,
}


def is_row_text(text):
    """Whether a text is that of a ROW."""
    try:
        row_in(text)
    except BadText:
        return False
    return True


def is_written(line):
    """Whether a row of the sheet is written as one of the deeds or asks."""
    word, blank, rest = line.partition(" ")
    if word == "seen":
        return is_row_text(rest)
    if word not in NAMES_BEHIND:
        return False
    names = line.split(" ")[1:]
    return len(names) == NAMES_BEHIND[word] and is_row(tuple(names))


def told_of(book, line):
    """What is told of a row of the sheet, or how it is refused."""
    words = line.split(" ")
    teller = TELLERS[words[0]]
    try:
        return teller(book, words[1:])
    except Known:
        return "refused Known"
    except Strange:
        return "refused Strange"
    except Here:
        return "refused Here"
    except Bare:
        return "refused Bare"
    except Gone:
        return "refused Gone"
    except Stuck:
        return "refused Stuck"


def run(text):
    """The list with a text for each row of the sheet."""
    lines = text.split("\n") if text else []
    for number, line in enumerate(lines):
        if not is_written(line):
            raise BadRow(number)
    book = Book()
    return [told_of(book, line) for line in lines]
