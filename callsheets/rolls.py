"""Takes on rolls of film (point 1201)."""

from callsheets.errors import StockError

TAKE_LIMIT = 12
LONGEST_ROLL = 999


def in_order(takes, roll):
    """Return the numbers of the rolls of takes that are put on rolls one after the other."""
    _check(takes, roll)
    numbers = []
    number = 0
    used = 0
    for take in takes:
        if used + take > roll:
            number = number + 1
            used = 0
        used = used + take
        numbers.append(number)
    return tuple(numbers)


def _check(takes, roll):
    if len(takes) > TAKE_LIMIT:
        raise StockError("many")
    if not is_roll(roll):
        raise StockError("roll")
    if not all([1 <= take <= roll for take in takes]):
        raise StockError("take")


def is_roll(roll):
    """Return whether a roll may have so many minutes."""
    return 1 <= roll <= LONGEST_ROLL


def fewest_rolls(takes, roll):
    """Return the least of the tuples that put takes on the fewest rolls."""
    _check(takes, roll)
    rooms = [roll for _ in range(_fewest(takes, roll))]
    numbers = []
    for place, take in enumerate(takes):
        number = _first_roll(rooms, take, takes[place + 1:])
        rooms[number] = rooms[number] - take
        numbers.append(number)
    return tuple(numbers)


def _fewest(takes, roll):
    """Return the least number of rolls on which takes can be put."""
    count = 0
    while not _have_room([roll for _ in range(count)], takes):
        count = count + 1
    return count


def _first_roll(rooms, take, others):
    """Return the number of the first roll that can have a take so that all others have room, too."""
    for number, room in enumerate(rooms):
        left = [*rooms[:number], room - take, *rooms[number + 1:]]
        if room >= take and _have_room(left, others):
            return number
    return None


def _have_room(rooms, takes):
    """Return whether takes can be put on rolls on which so many minutes are left."""
    # For each set of takes, told by the bits of a number: the least pair of a
    # roll and of how much of it is used, up to which the set can be put on the
    # rolls, if they are filled in order. A greater pair never leaves more room,
    # so that nothing else has to be known of a set.
    sets = 1 << len(takes)
    ends = [None for _ in range(sets)]
    ends[0] = (0, 0)
    for chosen in range(sets):
        if ends[chosen] is not None:
            for place, take in enumerate(takes):
                more = chosen | (1 << place)
                end = _end_with(rooms, ends[chosen], take)
                if more != chosen and end is not None and (ends[more] is None or end < ends[more]):
                    ends[more] = end
    return ends[-1] is not None


def _end_with(rooms, end, take):
    """Return the pair of a roll and of how much of it is used with one more take, or None."""
    number, used = end
    while number < len(rooms):
        if used + take <= rooms[number]:
            return (number, used + take)
        number = number + 1
        used = 0
    return None


def takes_rolls(takes, roll, rolls):
    """Return whether numbers tell a roll for each take, and no roll has more than its minutes."""
    _check(takes, roll)
    return _are_right(takes, roll, rolls)


def _are_right(takes, roll, rolls):
    if len(rolls) != len(takes) or min(rolls, default=0) < 0:
        return False
    return all([_used_of(takes, rolls, number) <= roll for number in rolls])


def _used_of(takes, rolls, number):
    return sum([take for take, other in zip(takes, rolls) if other == number])


def short_ends(takes, roll, rolls):
    """Return the tuple of how many minutes are left on the rolls, up to the greatest one."""
    _check(takes, roll)
    if not _are_right(takes, roll, rolls):
        raise StockError("rolls")
    return tuple([roll - _used_of(takes, rolls, number) for number in range(max(rolls, default=-1) + 1)])
