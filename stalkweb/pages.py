"""Pages: books written as texts and read from them."""

from stalkweb.book import Book
from stalkweb.errors import BadText, Missing, WebError
from stalkweb.numbers import is_field
from stalkweb.texts import OTHER_FIGURES, read_deed, read_figures


def read_first_row(text):
    """The field of a page whose first row this is."""
    word, _, figures = text.partition(" ")
    field = read_figures(figures, OTHER_FIGURES)
    if word != "field" or not is_field(field):
        raise BadText()
    return field


def page(book):
    """The book's field and the deeds that stand, row by row."""
    return str(book)


def read_page(text):
    """A book in which the page's deeds were done."""
    rows = text.split("\n")
    book = Book(read_first_row(rows[0]))
    for at, row in enumerate(rows[1:], start=1):
        try:
            book.do(read_deed(book.field, row))
        except (WebError, Missing):
            raise BadText(at) from None
    return book
