"""Pictures of rows: all that recipes can tell of them."""

from sealedalike.errors import NotHad
from sealedalike.having import judge
from sealedalike.numbering import Table
from sealedalike.onlooker import Onlooker
from sealedalike.seen import seen_row


def picture(row):
    """The shapes of the shown things, and for each box what its openings need and give."""
    table = Table()
    shown, boxes = picture_in(table, row)
    shapes = table.all_things()
    told = [tuple([_told(shapes, *opening) for opening in openings]) for openings in boxes]
    return (_all_told(shapes, shown), tuple(told))


def boxes_of(row):
    """The tuple of the basic things by their numbers."""
    onlooker = Onlooker(seen_row(row))
    return tuple(onlooker.table.things_with(_boxes(onlooker, onlooker.reach())))


def shape_of(row, thing):
    """The shape of a thing; NotHad tells a paper if it cannot be had."""
    onlooker = Onlooker(seen_row(row), (thing,))
    reach = onlooker.reach()
    if not reach.has_all(onlooker.others):
        raise NotHad(judge(row, thing))
    table = Table()
    shapes = _shapes(table, onlooker, reach, _boxes(onlooker, reach))
    return table.things_with(_shapes_at(shapes, onlooker.others))[0]


def picture_in(table, row):
    """The picture with the numbers of its shapes in a table, so that it does not nest as deep as they do."""
    onlooker = Onlooker(seen_row(row))
    reach = onlooker.reach()
    boxes = _boxes(onlooker, reach)
    shapes = _shapes(table, onlooker, reach, boxes)
    told = {number: [] for number in boxes}
    for word, named, given in onlooker.ways.openings:
        if named[0] in told and reach.has_all(named):
            told[named[0]].append((word, _shapes_at(shapes, named[1:]), shapes[given]))
    return (_shapes_at(shapes, onlooker.shown), tuple([tuple(openings) for openings in told.values()]))


def _boxes(onlooker, reach):
    """The list of the numbers of the basic things, in the order in which they are got."""
    return onlooker.basics_among(reach, onlooker.got())


def _shapes(table, onlooker, reach, boxes):
    """The numbers, in a table, of the shapes of all things that can be had, by the numbers of these."""
    places = {number: box for box, number in enumerate(boxes)}
    shapes = {}
    for number, (form, parts) in enumerate(zip(onlooker.table.forms, onlooker.table.parts)):
        if number in places:
            shapes[number] = table.leaf(places[number])
        elif number in reach.had:
            shapes[number] = table.whole(form[0], _shapes_at(shapes, parts)) if parts else table.leaf(form)
    return shapes


def _shapes_at(shapes, numbers):
    return tuple([shapes[number] for number in numbers])


def _told(shapes, word, needed, given):
    return (word, _all_told(shapes, needed), shapes[given])


def _all_told(shapes, numbers):
    return tuple([shapes[number] for number in numbers])
