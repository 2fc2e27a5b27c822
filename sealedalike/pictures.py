"""Pictures of rows: all that recipes can tell of them."""

from sealedalike.errors import NotHad
from sealedalike.having import judge
from sealedalike.numbering import Table
from sealedalike.onlooker import Onlooker


def picture(row):
    """The shapes of the shown things, and for each box what its openings need and give."""
    table = Table()
    shown, boxes = picture_in(table, row)
    told = [tuple([_told(table, *opening) for opening in openings]) for openings in boxes]
    return (_all_told(table, shown), tuple(told))


def boxes_of(row):
    """The tuple of the basic things by their numbers."""
    onlooker = Onlooker(row)
    return tuple(onlooker.things_with(onlooker.basics()))


def shape_of(row, thing):
    """The shape of a thing; NotHad tells a paper if it cannot be had."""
    onlooker = Onlooker(row, (thing,))
    if not onlooker.making.all_made(onlooker.others):
        raise NotHad(judge(row, thing))
    table = Table()
    return table.things[_shapes(table, onlooker)[onlooker.others[0]]]


def picture_in(table, row):
    """The picture with the numbers of its shapes in a table, so that it does not nest as deep as they do."""
    onlooker = Onlooker(row)
    shapes = _shapes(table, onlooker)
    boxes = [_openings_at(onlooker, shapes, number) for number in onlooker.basics()]
    return (_shapes_at(shapes, onlooker.shown), tuple(boxes))


def _shapes(table, onlooker):
    """The numbers, in a table, of the shapes of all things that can be had, by the numbers of these."""
    boxes = {number: box for box, number in enumerate(onlooker.basics())}
    shapes = {}
    for number, thing in enumerate(onlooker.table.things):
        if number in boxes:
            shapes[number] = table.leaf(boxes[number])
        elif number in onlooker.making.made:
            parts = onlooker.table.parts[number]
            shapes[number] = table.whole(thing[0], _shapes_at(shapes, parts)) if parts else table.leaf(thing)
    return shapes


def _shapes_at(shapes, numbers):
    return tuple([shapes[number] for number in numbers])


def _openings_at(onlooker, shapes, number):
    """What stands in the picture for a box."""
    return tuple([
        (word, _shapes_at(shapes, needed), shapes[given])
        for word, needed, given in onlooker.chances[number] if onlooker.making.all_made(needed)
    ])


def _told(table, word, needed, given):
    return (word, _all_told(table, needed), table.things[given])


def _all_told(table, numbers):
    return tuple([table.things[number] for number in numbers])
