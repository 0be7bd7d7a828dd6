"""Places: the numbers from 0 to 1 for which addresses stand, the line of a move, and where a move carries parts."""

from math import gcd

from treeturns.errors import InvalidNumber, NotCarried
from treeturns.moves import check_move, paired, parting
from treeturns.trees import check_address, leaves
from treeturns.wholes import check_whole, is_whole

LONGEST = 100000


def fraction(top, bottom):
    """The fraction of two whole numbers, without a common divisor."""
    common = gcd(top, bottom)
    return top // common, bottom // common


def rank(address):
    """How many stretches of the same length lie before that of an address."""
    found = 0
    for letter in address:
        found = 2 * found + (1 if letter == "r" else 0)
    return found


def span(address):
    """The two ends of the stretch for which an address stands."""
    check_address(address)
    low, many = rank(address), 1 << len(address)
    return fraction(low, many), fraction(low + 1, many)


def is_place(place):
    """Whether a value is a fraction from 0 to 1."""
    if not isinstance(place, tuple) or len(place) != 2 or not is_whole(place[0]) or not is_whole(place[1]):
        return False
    top, bottom = place
    return 0 <= top <= bottom and gcd(top, bottom) == 1


def value(move, place):
    """To which fraction the line of a move takes a fraction from 0 to 1."""
    check_move(move)
    if not is_place(place):
        raise InvalidNumber(place)
    top, bottom = place
    # Of all stretches that do not end before the place, the first one holds it.
    reaching = [pair for pair in paired(move) if top << len(pair[0]) <= (rank(pair[0]) + 1) * bottom]
    source, target = reaching[0]
    # How far the place lies in the stretch, if the whole stretch is as long as the bottom of the fraction.
    inner = (top << len(source)) - rank(source) * bottom
    return fraction(rank(target) * bottom + inner, bottom << len(target))


def carrying(pairs, address):
    """The pair of leaves by which an address is carried, or None."""
    for pair in pairs:
        if address.startswith(pair[0]):
            return pair
    return None


def carried(move, address):
    """The address to which a move takes the part at an address."""
    check_move(move)
    check_address(address)
    pair = carrying(paired(move), address)
    if pair is None:
        raise NotCarried(address)
    source, target = pair
    return target + address[len(source):]


def repeated(text, piece, most):
    """How often a text begins with a piece, one behind another, but not more than `most`."""
    many = 0
    while many < most and text.startswith(piece, many * len(piece)):
        many += 1
    return many


def after(move, address, times):
    """Where a part is after a move was done so often, as front, loop, count and rest.

    The part goes from leaf to leaf in one direction, as long as the two leaves of a pair lie beside each other. If one
    lies below the other, letters are lost or gained in the same place again and again: these times are done at once.
    """
    check_move(move)
    check_address(address)
    check_whole(times)
    pairs = paired(move if times >= 0 else ~move)
    here = address[:]
    ahead = abs(times)
    while ahead > 0:
        pair = carrying(pairs, here)
        if pair is None:
            raise NotCarried(address)
        source, target = pair
        if source == target:
            break
        rest = here[len(source):]
        if target.startswith(source):
            return source, target[len(source):], ahead, rest
        many = 1
        if source.startswith(target):
            lost = source[len(target):]
            many = 1 + repeated(rest, lost, ahead - 1)
            rest = rest[(many - 1) * len(lost):]
        here = target + rest
        ahead -= many
    return here[:LONGEST], "", 0, here[LONGEST:]


def endless(front, loop):
    """The number to which the stretches of front, front + loop, front + loop + loop and so on shrink."""
    every = (1 << len(loop)) - 1
    return fraction(rank(front) * every + rank(loop), every << len(front))


def crossing(short, long, drift):
    """The number that the line leaves alone where one of two stretches lies in the other, and the drift behind it."""
    loop = long[len(short):]
    point = endless(short, loop)
    # If the loop leads to the right alone, the point is the end of the stretch, and nothing of it lies behind.
    return point, point, (drift if "l" in loop else None)


def resting(move):
    """What the line leaves alone in the stretch of each leaf: tuples of start, end, and the drift behind or None.

    Nothing rests where the two stretches of a leaf lie beside each other. So each gap begins in, or at the start of, a
    stretch in which a single number rests, and the tuple of this number tells the drift of the gap.
    """
    found = []
    for source, target in paired(move):
        if source == target:
            start, end = span(source)
            found.append((start, end, None))
        elif target.startswith(source):
            found.append(crossing(source, target, "down"))
        elif source.startswith(target):
            found.append(crossing(target, source, "up"))
    return found


def fixed(move):
    """The ends of all stretches that the line of a move leaves where they are."""
    found = []
    for start, end, _ in resting(move):
        if found and found[-1][1] == start:
            found[-1] = (found[-1][0], end)
        else:
            found.append((start, end))
    return found


def drifts(move):
    """In which direction the line takes the numbers of each gap between two fixed stretches."""
    return [drift for start, end, drift in resting(move) if drift is not None]


def compare(one, other):
    """Which of two lines is below the other one where they part: -1 for the first, 1 for the second, 0 if none is."""
    parted = parting(one, other)
    if parted is None:
        return 0
    _, first, second = parted
    # Up to the first leaves with different addresses both lines agree; there the longer stretch rises faster.
    apart = [len(mine) < len(its) for mine, its in zip(leaves(first), leaves(second)) if mine != its]
    return 1 if apart[0] else -1
