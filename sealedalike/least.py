"""Recipes with the least written-out sizes.

In such a recipe nothing is opened that was made: its part was there already. So only pieces of the
row are opened, and all that is made is a piece of the row, of what is needed, or of what is asked for.
"""

from heapq import heappop, heappush

# Stands for no way, but for a step that names no others; ahead of all ways.
FIRST = -1


def least_size_of(onlooker, goal):
    """The least written-out size of a recipe for the thing with this number; None if it cannot be had."""
    _, sizes = _least_ways(onlooker, goal)
    return sizes.get(goal)


def least_recipe(onlooker, goal):
    """A recipe with the least written-out size for the thing with this number; None if it cannot be had."""
    chosen, sizes = _least_ways(onlooker, goal)
    if goal not in chosen:
        return None
    ways = onlooker.ways
    first = onlooker.first_steps()
    used = {}
    left = [goal]
    while left:
        number = left.pop()
        if number not in used:
            used[number] = ways.named[chosen[number]] if chosen[number] != FIRST else ()
            left.extend(used[number])
    places = {}
    steps = []
    # What a step names has a lesser size than what it comes to, so it stands ahead.
    for _, number in sorted([(sizes[number], number) for number in used]):
        numbers = tuple([places[part] for part in used[number]])
        places[number] = len(steps)
        steps.append(ways.step(chosen[number], numbers) if numbers else first[number])
    return tuple(steps)


def _least_ways(onlooker, goal):
    """For all things up to a wanted one, by number: the last way of a least recipe, and its size.

    The least size not yet known is that of the way with the least one among those whose named
    things are all known, as no step is smaller than what it names.
    """
    ways = onlooker.ways
    missing = list(ways.missing)
    # In ascending order, which is one of a heap, too.
    queue = [(1, FIRST, number) for number in sorted(onlooker.first_steps())]
    chosen = {}
    sizes = {}
    while queue and goal not in chosen:
        size, way, number = heappop(queue)
        if number not in chosen:
            chosen[number] = way
            sizes[number] = size
            for user in ways.users[number]:
                missing[user] -= 1
                if missing[user] == 0:
                    larger = 1 + sum([sizes[part] for part in ways.named[user]])
                    heappush(queue, (larger, user, ways.gives[user]))
    return chosen, sizes
