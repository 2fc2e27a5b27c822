"""Recipes with the least written-out sizes.

In such a recipe nothing is opened that was made: its part was there already. So only pieces of the
row are opened, and all that is made is a piece of the row, of what is needed, or of what is asked for.
"""

from heapq import heappop, heappush


def least_recipe(onlooker, goal):
    """A recipe with the least written-out size for the thing with this number, which can be had."""
    rules = onlooker.rules()
    chosen, sizes = _least_rules(rules, len(onlooker.table.things))
    used = {}
    left = [goal]
    while left:
        number = left.pop()
        if number not in used:
            used[number] = True
            left.extend(rules[chosen[number]][2])
    places = {}
    steps = []
    # What a step names has a lesser size than what it comes to, so it stands ahead.
    for _, number in sorted([(sizes[number], number) for number in used]):
        _, words, named = rules[chosen[number]]
        places[number] = len(steps)
        steps.append((*words, tuple([places[part] for part in named])) if named else words)
    return tuple(steps)


def _least_rules(rules, many):
    """For things with so many numbers, by number: the place of the last rule of a least recipe, and its size.

    The least size not yet known is that of the rule with the least one among those whose named
    things are all known, as no step is smaller than what it names.
    """
    users = [[] for _ in range(many)]
    missing = []
    queue = []
    for at, (_, _, named) in enumerate(rules):
        missing.append(len(named))
        for number in named:
            users[number].append(at)
        if len(named) == 0:
            heappush(queue, (1, at))
    chosen = {}
    sizes = {}
    while queue:
        size, at = heappop(queue)
        number = rules[at][0]
        if number not in chosen:
            chosen[number] = at
            sizes[number] = size
            for user in users[number]:
                missing[user] -= 1
                if missing[user] == 0:
                    heappush(queue, (1 + sum([sizes[part] for part in rules[user][2]]), user))
    return chosen, sizes
