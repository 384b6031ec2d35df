"""The desk: goes through a list of calls on one new object."""

from costhedge.book import Book
from costhedge.replies import FORMS


def read_call(calls, start):
    """The parts of the call that begins at start, its numbers and then its rows, and the place behind it."""
    form = FORMS[calls[start]]
    place = start + 1 + form[0]
    parts = calls[start + 1:place]
    for row in range(form[1]):
        behind = place + 1 + calls[place]
        parts.append(calls[place + 1:behind])
        place = behind
    return (parts, place)


def answers(calls):
    """For each call of the list, in order, how many numbers it answers, and these."""
    book = Book()
    given = []
    start = 0
    while start < len(calls):
        call = read_call(calls, start)
        answer = FORMS[calls[start]][2](book, call[0])
        given.append(len(answer))
        given.extend(answer)
        start = call[1]
    return given
