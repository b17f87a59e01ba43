"""Which scenes must be shot ahead of which (points 201 and 202)."""

from callsheets.errors import OrderError


def led_to(orders, scene):
    """Return the ascending tuple of the scenes to which rows of orders lead from a scene."""
    found = []
    waiting = [scene]
    while waiting:
        here = waiting.pop()
        for first, second in orders:
            if first == here and second not in found:
                found.append(second)
                waiting.append(second)
    return tuple(sorted(found))


def ahead(film, scene):
    """Return the ascending tuple of the scenes that are ahead of a scene."""
    turned = [(second, first) for first, second in film[3]]
    return led_to(turned, scene)


def behind(film, scene):
    """Return the ascending tuple of the scenes that a scene is ahead of."""
    return led_to(film[3], scene)


def is_closed(film, shot):
    """Return whether all scenes ahead of those of a set are in it."""
    # It is enough to look at single orders: a row of them that led into the
    # set from outside would have one order that does.
    for first, second in film[3]:
        if second in shot and first not in shot:
            return False
    return True


def free_scenes(film, shot):
    """Return the ascending tuple of the scenes that are free for a closed set."""
    if not is_closed(film, shot):
        raise OrderError("open")
    others = [scene for scene in range(len(film[2])) if scene not in shot]
    return tuple([scene for scene in others if is_closed(film, (*shot, scene))])


def layers(film):
    """Return the tuple of the scenes to which the longest row has 0, 1, 2 .. orders."""
    told = []
    placed = ()
    while len(placed) < len(film[2]):
        layer = free_scenes(film, placed)
        told.append(layer)
        placed = placed + layer
    return tuple(told)


def needless(film):
    """Return the ascending tuple of the orders that follow from the others."""
    return tuple([order for order in film[3] if _follows(film[3], order)])


def _follows(orders, order):
    others = [other for other in orders if other != order]
    return order[1] in led_to(others, order[0])
