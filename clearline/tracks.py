"""Trains on the track: standings, and the moves that lead from one to the next."""

from clearline.errors import BadMove, BadNames, BadStanding
from clearline.forms import are_ascending, are_items, is_name, is_tuple_of
from clearline.layout import layout_of
from clearline.lies import are_lies, demand_lies
from clearline.ways import wanted_side

# The first words of accidents.
ACCIDENTS = ("meet", "derailed")


def is_cover(layout, thing):
    """Whether any value is a cover: one way, or two, the second of which leads to the first one."""
    if not are_items(thing, layout.is_way) or not 1 <= len(thing) <= 2:
        return False
    return len(thing) == 1 or layout.beyond(thing[1]) == thing[0][:2]


def can_be_slipped(layout, cover):
    """Whether a train with this cover may have slipped: it has passed a signal with an overlap."""
    return len(cover) == 2 and layout.overlap_at(layout.named_at(cover[1])) != ()


def is_train(layout, thing):
    """Whether any value is a train (name, cover, is_slipped)."""
    if not is_tuple_of(thing, 3) or not is_name(thing[0]) or not is_cover(layout, thing[1]):
        return False
    return thing[2] is False or (thing[2] is True and can_be_slipped(layout, thing[1]))


def are_trains(layout, thing):
    """Whether any value is trains, ascending, with different names."""
    if not are_items(thing, lambda item: is_train(layout, item)):
        return False
    names = [train[0] for train in thing]
    return names == sorted(set(names))


def fits_standing(layout, thing):
    """Whether any value is a standing."""
    if not is_tuple_of(thing, 3):
        return False
    trains, lies, shows = thing
    return are_trains(layout, trains) and are_lies(layout, lies) and are_ascending(shows, layout.starts)


def is_standing(plan, thing):
    """Whether any value is a standing of the plan."""
    return fits_standing(layout_of(plan), thing)


def standing_in(plan, standing):
    """The layout of a plan; raises the errors of a wrong plan, and of a value that is no standing of it."""
    layout = layout_of(plan)
    if not fits_standing(layout, standing):
        raise BadStanding(standing)
    return layout


def bare(plan, lies):
    """The standing without trains and shows in which the points lie so."""
    demand_lies(layout_of(plan), lies)
    return ((), lies, ())


def covered(standing):
    """The list of the stretches under the trains, each as often as a way of it is covered."""
    return [way[0] for train in standing[0] for way in train[1]]


def taken(plan, standing):
    """The ascending tuple of the stretches that are taken."""
    standing_in(plan, standing)
    return tuple(sorted(set(covered(standing))))


def is_safe(plan, standing):
    """Whether no stretch is taken twice."""
    standing_in(plan, standing)
    names = covered(standing)
    return len(set(names)) == len(names)


def train_called(standing, name):
    """The train with this name, or None if it is not on the track."""
    for train in standing[0]:
        if train[0] == name:
            return train
    return None


def words_of(layout, shows, train):
    """The list of the words of the moves that a train on the track can make, in the document's order."""
    _, cover, is_slipped = train
    if len(cover) == 2:
        return ["back"] if is_slipped else ["tail"]
    way = cover[0]
    name = layout.named_at(way)
    found = []
    if layout.beyond(way) is not None and (name is None or name in shows):
        found.append("on")
    if name in layout.gates:
        found.append("out")
    if layout.overlap_at(name) != () and name not in shows:
        found.append("slip")
    return found


def moves_of(layout, standing, name):
    """The list of the possible moves of the train with this name, on the track or not."""
    train = train_called(standing, name)
    if train is None:
        return [("in", name, gate) for gate in layout.gates if gate in standing[2]]
    return [(word, name) for word in words_of(layout, standing[2], train)]


def are_names(thing):
    """Whether any value is a tuple of different names."""
    return are_items(thing, is_name) and len(set(thing)) == len(thing)


def moves(plan, standing, names):
    """The tuple of all possible moves by trains with these names, in the order of the names."""
    layout = standing_in(plan, standing)
    if not are_names(names):
        raise BadNames(names)
    return tuple([move for name in names for move in moves_of(layout, standing, name)])


def is_possible(layout, standing, thing):
    """Whether any value is a possible move."""
    if not isinstance(thing, tuple) or len(thing) < 2 or not is_name(thing[1]):
        return False
    return thing in moves_of(layout, standing, thing[1])


def way_ahead(layout, lies, beginning):
    """The way that a head takes at this end, or None if it meets points there that do not lie for it."""
    for way in layout.ways_from(beginning):
        if way[0] not in layout.points or (way[0], wanted_side(way)) in lies:
            return way
    return None


def with_train(trains, train):
    """The trains with this one in its place, instead of the one of its name if there is one."""
    others = [other for other in trains if other[0] != train[0]]
    return tuple(sorted(others + [train]))


def way_forward(layout, standing, move):
    """What a move in, on or slip leads over: the gate or signal passed, if any, and the end behind it."""
    if move[0] == "in":
        return (move[2], layout.first_end(move[2]))
    head = train_called(standing, move[1])[1][0]
    return (layout.named_at(head), layout.beyond(head))


def gone_forward(layout, standing, move):
    """The standing after a move in, on or slip, or the accident in which it ends."""
    word, name = move[:2]
    trains, lies, shows = standing
    passed, beginning = way_forward(layout, standing, move)
    if beginning[0] in covered(standing):
        return ("meet", beginning[0])
    way = way_ahead(layout, lies, beginning)
    if way is None:
        return ("derailed", beginning[0])
    behind = () if word == "in" else train_called(standing, name)[1]
    train = (name, (way,) + behind, word == "slip")
    return (with_train(trains, train), lies, tuple([shown for shown in shows if shown != passed]))


def gone_out(standing, name):
    """The standing after a train has left the track."""
    trains, lies, shows = standing
    return (tuple([train for train in trains if train[0] != name]), lies, shows)


def drawn_in(standing, name, kept):
    """The standing after a train has kept only the way at this place of its cover."""
    trains, lies, shows = standing
    cover = train_called(standing, name)[1]
    return (with_train(trains, (name, (cover[kept],), False)), lies, shows)


def is_accident(after):
    """Whether what comes of a move is an accident, and not a standing."""
    return after[0] in ACCIDENTS


def after_move(layout, standing, move):
    """The standing after a possible move, or the accident in which it ends."""
    word, name = move[:2]
    if word == "out":
        return gone_out(standing, name)
    if word == "tail":
        return drawn_in(standing, name, 0)
    if word == "back":
        return drawn_in(standing, name, 1)
    return gone_forward(layout, standing, move)


def moved(plan, standing, move):
    """The standing after a move, or ("meet", stretch) or ("derailed", points)."""
    layout = standing_in(plan, standing)
    if not is_possible(layout, standing, move):
        raise BadMove(move)
    return after_move(layout, standing, move)
