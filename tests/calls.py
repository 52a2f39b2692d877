"""One question asked in all the ways in which it may be asked."""

from copy import deepcopy
from inspect import isgenerator

from handround.errors import InvalidPaper, RoundError
from tests.papermodel import kinds

DEFAULTS = (("sizes", (2,)), ("most", None))


def answer(function, *given, **named):
    """What is returned, with its kinds, or the error with its fields; a generator as all that it yields."""
    try:
        found = function(*given, **named)
        return ("yields", kinds(list(found))) if isgenerator(found) else ("returns", kinds(found))
    except RoundError as error:
        return (type(error).__name__, kinds(list(vars(error).values())))


def asked(test, function, given, **named):
    """The answer, after it has turned out to be the same by position, by name and once more, with the
    arguments as they were, and without those that are as if left out. given has the arguments by name, named
    those that are passed by name only."""
    before = kinds([deepcopy(list(given.values())), deepcopy(list(named.values()))])
    found = answer(function, *given.values(), **named)
    test.assertEqual(answer(function, **given, **named), found)
    test.assertEqual(answer(function, *given.values(), **named), found)
    left = {name: value for name, value in named.items() if (name, value) not in DEFAULTS}
    test.assertEqual(answer(function, *given.values(), **left), found)
    test.assertEqual(kinds([list(given.values()), list(named.values())]), before)
    return found


def returns(thing):
    return ("returns", kinds(thing))


def yields(*things):
    return ("yields", kinds(list(things)))


def raises(error, *fields):
    return (error.__name__, kinds(list(fields)))


def checked(test, function, model, given, sizes, expected):
    """That a checker returns what is expected, or raises it where it is a word and a place, and that the
    model of the checker says so, too."""
    is_error = isinstance(expected, tuple)
    wanted = raises(InvalidPaper, *expected) if is_error else returns(expected)
    test.assertEqual(asked(test, function, given, sizes=sizes), wanted, (given, sizes))
    test.assertEqual(model(*given.values(), sizes), expected if is_error else ("true", expected), (given, sizes))
