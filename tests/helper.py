"""What all tests share: calls that are watched for what point 2 promises, and refusals."""

import copy

from chancehouse import errors

REFUSALS = (
    errors.NoNumber, errors.NoRow, errors.NoRule, errors.NoAnswer,
    errors.NoText, errors.NoName, errors.NoHouse, errors.NoWord,
)


def lists_in(thing):
    found = [thing] if isinstance(thing, list) else []
    parts = thing.values() if isinstance(thing, dict) else thing
    if isinstance(thing, (list, tuple, dict)):
        for part in parts:
            found.extend(lists_in(part))
    return found


def scribble(thing):
    for some in lists_in(thing):
        some.insert(0, "scribble")


def watch_what_is_kept(case, function, given):
    """Change first what was told, then what was handed in: neither may reach the other."""
    before = repr(given)
    first = function(*given)
    kept = repr(first)
    second = function(*given)
    scribble(second)
    case.assertEqual(repr(first), kept, "two answers share a list")
    case.assertEqual(repr(given), before, "an answer shares a list with what was handed in")
    case.assertEqual(repr(function(*given)), kept, "a changed answer changes what is told later")
    copied = copy.deepcopy(given)
    answer = function(*copied)
    scribble(copied)
    case.assertEqual(repr(answer), kept, "what was handed in, changed later, changes an answer")


def tells(case, expected, function, *given):
    """The call tells just what is expected, kinds too, and keeps point 2."""
    before = repr(given)
    answer = function(*given)
    case.assertEqual(repr(answer), repr(expected))
    case.assertEqual(repr(given), before, "what was handed in is changed")
    places = [id(some) for some in lists_in(answer)]
    case.assertEqual(len(places), len(set(places)), "a list stands at two places")
    watch_what_is_kept(case, function, given)


def refuses(case, refusal, function, *given):
    """The call is refused just so, and nothing that was handed in is changed."""
    before = repr(given)
    try:
        answer = function(*given)
    except ValueError as error:
        case.assertIsInstance(error, refusal)
        case.assertIsInstance(error, errors.ChanceError)
        others = [other for other in REFUSALS if other is not refusal and isinstance(error, other)]
        case.assertEqual(others, [])
    else:
        case.fail(f"not refused, but told {answer!r}: {given!r}")
    case.assertEqual(repr(given), before, "a refused call changed what was handed in")
