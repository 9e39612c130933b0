"""A book of a row, kept over many deeds, each of which can be undone."""

from letinrow.errors import NoDeed
from letinrow.orders import order_of
from letinrow.page import bare_page, with_comer, with_first_served, with_friends, with_parted


class Book:
    """A row and friends, at first bare. It has a page for each deed that stands, behind a bare one."""

    def __init__(self):
        self.pages = [bare_page()]
        self.stood = []
        self.logged = []

    def now(self):
        """The last page."""
        return self.pages[-1]

    def turn_to(self, page, deed):
        """Takes a deed that wasn't refused, and the page that it made."""
        self.pages.append(page)
        self.stood.append(deed)
        self.logged.append(deed)

    def befriend(self, one, other):
        """These two become friends."""
        self.turn_to(with_friends(self.now(), one, other), ("befriend", one, other))

    def part(self, one, other):
        """These two are friends no more; who stands, stands."""
        self.turn_to(with_parted(self.now(), one, other), ("part", one, other))

    def come(self, who):
        """Who comes; told is the place."""
        self.turn_to(with_comer(self.now(), who), ("come", who))
        return self.row().index(who)

    def serve(self):
        """The first one is served; told is who goes."""
        self.turn_to(with_first_served(self.now()), ("serve",))
        return self.now().gone[-1]

    def undo(self):
        """The last deed that stands is as if it had never been; told is whether there was one."""
        if not self.stood:
            return False
        self.pages.pop()
        self.stood.pop()
        self.logged.append(("undo",))
        return True

    def row(self):
        """The ROW."""
        return self.now().people()

    def friends(self):
        """The FRIENDS."""
        return self.now().pairs

    def served(self):
        """The tuple of all who were served, in order."""
        return self.now().gone

    def host(self, who):
        """Behind whom who came, None where it came to the end without a friend."""
        return self.now().triple_of(who)[1]

    def put_back(self, who):
        """How many were let in ahead of who since it came."""
        return self.now().triple_of(who)[2]

    def deeds(self):
        """How many deeds stand."""
        return len(self.stood)

    def log(self):
        """The list of all deeds that weren't refused, undone ones and undos, too."""
        return list(self.logged)

    def as_of(self, many):
        """A Book of its own as behind the first so many deeds that stand."""
        if not 0 <= many <= len(self.stood):
            raise NoDeed(many)
        book = Book()
        # The lists are its own; the pages may be shared, since none is ever changed.
        book.pages = self.pages[:many + 1]
        book.stood = self.stood[:many]
        book.logged = self.stood[:many]
        return book

    def twin(self):
        """A Book of its own as behind all deeds that stand."""
        return self.as_of(len(self.stood))

    def order(self):
        """What order_of tells of the row and of the friends as they are now."""
        return order_of(self.friends(), self.row())

    def told_order(self):
        """The list of those in the row, in the order in which they came."""
        return list(self.now().comers)

    def __len__(self):
        return len(self.pages[-1].standing)

    def __eq__(self, other):
        return isinstance(other, Book) and self.row() == other.row() and self.friends() == other.friends()

    def __repr__(self):
        return f"Book({len(self.pages[-1].standing)})"
