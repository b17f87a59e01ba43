"""Small stories for the tests of what must look alike, and their clashes."""

import itertools

from callsheets.films import parse_film


def film_of(*minutes):
    return parse_film("place p inside\n" + "".join(f"scene s{k} p any {told} :\n" for k, told in enumerate(minutes)))


def plain_clashes(story, things):
    """Return the clashes, by the parts of the story between the cuts."""
    found = []
    for thing, (seen, cuts) in enumerate(things):
        part = {scene: sum(1 for cut in cuts if cut <= place) for place, scene in enumerate(story)}
        for (one, value), (other, second) in itertools.combinations(sorted(seen), 2):
            if value != second and part[one] == part[other]:
                found.append((thing, one, other))
    return tuple(found)


def plain_again(film, story, things):
    found = plain_clashes(story, things)
    best = None
    for bits in itertools.product((0, 1), repeat=len(film[2])):
        scenes = tuple(scene for scene, bit in enumerate(bits) if bit)
        if all(one in scenes or other in scenes for _, one, other in found):
            row = (sum(film[2][scene][3] for scene in scenes), len(scenes), scenes)
            best = row if best is None else min(best, row)
    return best[2]


def random_story(source, most):
    """Return a film with a story and things."""
    count = source.randint(1, most)
    film = film_of(*(source.choice((5, 10, 15, 30)) for _ in range(count)))
    story = tuple(source.sample(range(count), count))
    things = []
    for _ in range(source.randint(0, 3)):
        scenes = sorted(source.sample(range(count), source.randint(0, count)))
        seen = tuple((scene, source.choice((0, 1, 1, 99))) for scene in scenes)
        places = list(range(1, count))
        things.append((seen, tuple(sorted(source.sample(places, source.randint(0, min(2, len(places))))))))
    return film, story, tuple(things)
