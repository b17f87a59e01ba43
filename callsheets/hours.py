"""From when to when what stands on a call sheet is done (point 502)."""

from callsheets.sheets import MEAL


def hours(film, sheet, shot, news):
    """Return the pair of the triples (item, begin, end) and the scenes that fall."""
    weather, ill, late = news
    call, dry, rain = sheet
    items = dry if weather == "dry" else rain
    move, _, meal = film[4]
    clock = call + late
    here = None
    rows = []
    fallen = []
    for item in items:
        if item == MEAL:
            rows.append((item, clock, clock + meal))
            clock = clock + meal
        elif item not in shot:
            _, place, _, minutes, _, cast = film[2][item]
            if ill in cast:
                fallen.append(item)
            else:
                begin = clock if here is None or here == place else clock + move
                here = place
                clock = begin + minutes
                rows.append((item, begin, clock))
    return tuple(rows), tuple(sorted(fallen))
