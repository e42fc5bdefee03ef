"""Books all of whose clauses are plain."""

from earlyorlate.errors import NotPlain
from earlyorlate.items import is_plain_clause


def check_plain(book):
    """Raise NotPlain with the index of the first clause that is not plain, if there is one."""
    for index, clause in enumerate(book.clauses):
        if not is_plain_clause(clause):
            raise NotPlain(index)
