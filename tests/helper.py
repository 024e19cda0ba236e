"""What all tests share: calls that are watched for what point 2 promises, refusals, and chains."""

import copy
import fractions
import itertools
import math
import random

from chancehouse import errors

NOUGHT = (0, 1)
ONE = (1, 1)
HALF = (1, 2)
THIRD = (1, 3)
ALONE = [[(0, ONE)]]
# 0 leads on to 1 or back into itself, 1 to 2 or into the trap 3; 4 leads to 0 and 2.
HALL = [[(0, HALF), (1, HALF)], [(2, THIRD), (3, (2, 3))], [(0, ONE)], [(3, ONE)], [(0, HALF), (2, HALF)]]
REFUSALS = (
    errors.NoNumber, errors.NoRow, errors.NoRule, errors.NoAnswer,
    errors.NoText, errors.NoName, errors.NoHouse, errors.NoWord,
)


def lists_in(thing):
    found = [thing] if isinstance(thing, list) else []
    parts = thing.values() if isinstance(thing, dict) else thing
    if isinstance(thing, (list, tuple, dict)):
        for part in parts:
            found.extend(lists_in(part))
    return found


def scribble(thing):
    for some in lists_in(thing):
        some.insert(0, "scribble")


def watch_what_is_kept(case, function, given):
    """Change first what was told, then what was handed in: neither may reach the other."""
    before = repr(given)
    first = function(*given)
    kept = repr(first)
    second = function(*given)
    scribble(second)
    case.assertEqual(repr(first), kept, "two answers share a list")
    case.assertEqual(repr(given), before, "an answer shares a list with what was handed in")
    case.assertEqual(repr(function(*given)), kept, "a changed answer changes what is told later")
    copied = copy.deepcopy(given)
    answer = function(*copied)
    scribble(copied)
    case.assertEqual(repr(answer), kept, "what was handed in, changed later, changes an answer")


def tells(case, expected, function, *given):
    """The call tells just what is expected, kinds too, and keeps point 2."""
    before = repr(given)
    answer = function(*given)
    case.assertEqual(repr(answer), repr(expected))
    case.assertEqual(repr(given), before, "what was handed in is changed")
    places = [id(some) for some in lists_in(answer)]
    case.assertEqual(len(places), len(set(places)), "a list stands at two places")
    watch_what_is_kept(case, function, given)


def refuses(case, refusal, function, *given):
    """The call is refused just so, and nothing that was handed in is changed."""
    before = repr(given)
    try:
        answer = function(*given)
    except ValueError as error:
        case.assertIsInstance(error, refusal)
        case.assertIsInstance(error, errors.ChanceError)
        others = [other for other in REFUSALS if other is not refusal and isinstance(error, other)]
        case.assertEqual(others, [])
    else:
        case.fail(f"not refused, but told {answer!r}: {given!r}")
    case.assertEqual(repr(given), before, "a refused call changed what was handed in")


def is_fraction(thing):
    if not isinstance(thing, tuple) or len(thing) != 2 or any(type(part) is not int for part in thing):
        return False
    return thing[1] > 0 and math.gcd(*thing) == 1


def as_fraction(one):
    return fractions.Fraction(one[0], one[1])


def as_pair(one):
    return (one.numerator, one.denominator)


def weighed_by_hand(row, values):
    return sum(as_fraction(chance) * as_fraction(values[room]) for room, chance in row)


def reached(chain, start, marks):
    """The rooms, the start too, to which one comes by way of rooms that are no marks."""
    rooms, last = {start}, None
    while rooms != last:
        last = rooms
        rooms = rooms | {room for one in rooms if one not in marks for room, chance in chain[one]}
    return rooms


def uneven_row(targets):
    """A row into just these rooms, no two of them with the same chance."""
    whole = sum(target + 1 for target in targets)
    shared = [math.gcd(target + 1, whole) for target in targets]
    return [(target, ((target + 1) // one, whole // one)) for target, one in zip(targets, shared)]


def chains_of(many):
    """A chain for each choice of the rooms into which the ways of each room lead."""
    choices = [targets for size in range(1, many + 1) for targets in itertools.combinations(range(many), size)]
    return [[uneven_row(targets) for targets in some] for some in itertools.product(choices, repeat=many)]


def marks_of(many):
    return [list(some) for size in range(many + 1) for some in itertools.combinations(range(many), size)]


def line(many, up):
    """Rooms in a line, the ends of which stay; from the others one goes up with this chance, else down."""
    down = (up[1] - up[0], up[1])
    inner = [[(room - 1, down), (room + 1, up)] for room in range(1, many - 1)]
    return [[(0, (1, 1))]] + inner + [[(many - 1, (1, 1))]]


def ring(many):
    return [[((room + 1) % many, (1, 1))] for room in range(many)]


def long_chain(many):
    """All ways in all rooms, the chances of nine figures, the bottoms of different rows without common divisors."""
    chooser = random.Random(many)
    primes = (999999937, 999999929, 999999893, 999999883, 999999797,
              999999761, 999999757, 999999751, 999999739, 999999733)
    chain = []
    for whole in primes[:many]:
        cuts = [0] + sorted(chooser.sample(range(1, whole), many - 1)) + [whole]
        chain.append([(room, as_pair(fractions.Fraction(high - low, whole)))
                      for room, (low, high) in enumerate(zip(cuts, cuts[1:]))])
    return chain


def some_chains(many, count):
    """So many chains of so many rooms, the same ones each time, with few ways in most rooms."""
    chooser = random.Random(many)
    sizes = [min(size, many) for size in (1, 1, 1, 2, 2, 3)]
    return [[uneven_row(sorted(chooser.sample(range(many), chooser.choice(sizes)))) for room in range(many)]
            for chain in range(count)]


def uneven_costs(many):
    """Costs for so many rooms, some of them 0."""
    return [as_pair(fractions.Fraction(room * 7 % 5, room * 3 % 4 + 1)) for room in range(many)]


def questions():
    """Chains with marks: all small ones, and some of up to ten rooms."""
    for many in (1, 2, 3):
        for chain in chains_of(many):
            for marks in marks_of(many):
                yield chain, marks
    for many in (4, 5, 7, 10):
        for number, chain in enumerate(some_chains(many, 150)):
            for marks in ([], [number % many], sorted({number % many, number // 3 % many}), list(range(many))):
                yield chain, marks
