"""Recipes that tell two rows apart.

Whatever can be made or opened at one of the rows is made or opened at both, step by step, until a
step comes to something at one of them alone, or to something that was there at one of them alone.
If there is no such step, the things to which the steps come are a table that shows the rows alike.
"""

from sealedalike.course import Course
from sealedalike.onlooker import Onlooker
from sealedalike.recipes import named_in
from sealedalike.seen import seen_row


class View:
    """One of the rows: what the steps come to, and the first places at which they come to it."""

    def __init__(self, row):
        seen = seen_row(row)
        self.waiting = Onlooker(seen).rules()
        self.course = Course(seen)
        self.places = {}

    def next_steps(self):
        """The steps that come to something with what there is now, each of them told once."""
        steps = []
        waiting = []
        for number, words, named in self.waiting:
            if all([part in self.places for part in named]):
                steps.append((*words, tuple([self.places[part] for part in named])) if named else words)
            else:
                waiting.append((number, words, named))
        self.waiting = waiting
        return steps


def telling_paper(one, other):
    """A paper that two rows that match are unlike; None if they are alike."""
    views = (View(one), View(other))
    steps = []
    following = None
    while following != []:
        following = views[0].next_steps() + views[1].next_steps()
        for step in following:
            steps.append(step)
            paper = _told_by_last(views, steps)
            if paper is not None:
                return paper
    return None


def _told_by_last(views, steps):
    """Takes the last step at both rows: the paper that it gives, None if it gives none."""
    last = len(steps) - 1
    values = [view.course.take(steps[last]) for view in views]
    if None in values:
        return ("comes", _recipe_to(steps, last))
    known = [view.places.get(value) for view, value in zip(views, values)]
    if known[0] == known[1]:
        for view, value in zip(views, values):
            view.places.setdefault(value, last)
        return None
    place = known[0] if known[0] is not None else known[1]
    return ("same", _recipe_to(steps, place), _recipe_to(steps, last))


def _recipe_to(steps, last):
    """The recipe of just the steps that one of them, which is its last, needs."""
    used = {last: True}
    for at in reversed(range(last + 1)):
        if at in used:
            for number in named_in(steps[at]):
                used[number] = True
    recipe = []
    places = {}
    for at in sorted(used):
        places[at] = len(recipe)
        numbers = tuple([places[number] for number in named_in(steps[at])])
        recipe.append((*steps[at][:2], numbers) if numbers else steps[at])
    return tuple(recipe)
