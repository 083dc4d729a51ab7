"""The field: elements that receive letters and answer them, and detectors."""

from clearline.errors import BadField, BadLetter, BadName, BadTaken
from clearline.forms import are_ascending, are_items, is_integer_from, is_one_of, is_tuple_of
from clearline.items import exchanged
from clearline.layout import layout_of
from clearline.lies import POSITIONS, SIDES, demand_lies


def fits_letter(layout, thing):
    """Whether any value is a letter."""
    if is_tuple_of(thing, 4) and is_one_of(thing[3], SIDES):
        hearers = {"throw": layout.points}
    elif is_tuple_of(thing, 3):
        hearers = {"open": layout.starts, "stop": layout.starts, "look": layout.kinds}
    else:
        return False
    word, name, number = thing[:3]
    return is_one_of(word, hearers) and is_one_of(name, hearers[word]) and is_integer_from(number, 1)


def is_letter(plan, thing):
    """Whether any value is a letter to an element of the plan."""
    return fits_letter(layout_of(plan), thing)


def is_signal_answer(layout, thing):
    """Whether any value is an answer of a gate or signal."""
    if not is_tuple_of(thing, 5):
        return False
    word, name, last, opening, passed = thing
    if word != "signal" or not is_one_of(name, layout.starts) or not isinstance(passed, bool):
        return False
    return is_integer_from(last, 0) and is_integer_from(opening, 0)


def is_other_answer(layout, thing):
    """Whether any value is an answer of points or of a detector."""
    if not is_tuple_of(thing, 4):
        return False
    word, name, number, told = thing
    if word == "points":
        return is_one_of(name, layout.points) and is_integer_from(number, 0) and is_one_of(told, POSITIONS)
    return word == "seen" and is_one_of(name, layout.kinds) and is_integer_from(number, 1) and isinstance(told, bool)


def fits_answer(layout, thing):
    """Whether any value is an answer."""
    return is_signal_answer(layout, thing) or is_other_answer(layout, thing)


def is_answer(plan, thing):
    """Whether any value is an answer of an element of the plan."""
    return fits_answer(layout_of(plan), thing)


def begun_points(lie):
    """The element at the beginning of points that lie so; those that lie between are to lie left."""
    return (0, lie if lie in SIDES else "left", lie)


def begun_in(layout, lies):
    """The elements at the beginning."""
    signals = [(0, 0, False, False) for _ in layout.starts]
    return (tuple(signals), tuple([begun_points(lie) for _, lie in lies]))


def begun_field(plan, lies):
    """The elements at the beginning, with the points lying so."""
    layout = layout_of(plan)
    demand_lies(layout, lies)
    return begun_in(layout, lies)


def is_signal_element(thing):
    """Whether thing has the form of the element of a gate or signal."""
    if not is_tuple_of(thing, 4):
        return False
    last, opening, passed, shows = thing
    if not is_integer_from(last, 0) or not is_integer_from(opening, 0):
        return False
    return isinstance(passed, bool) and isinstance(shows, bool)


def is_points_element(thing):
    """Whether thing has the form of the element of points."""
    if not is_tuple_of(thing, 3):
        return False
    last, wish, lie = thing
    return is_integer_from(last, 0) and is_one_of(wish, SIDES) and is_one_of(lie, POSITIONS)


def fits_field(layout, thing):
    """Whether any value is elements, one for each gate, signal and points."""
    if not is_tuple_of(thing, 2):
        return False
    signals, points = thing
    if not are_items(signals, is_signal_element) or not are_items(points, is_points_element):
        return False
    return len(signals) == len(layout.starts) and len(points) == len(layout.points)


def is_field(plan, thing):
    """Whether any value is elements of the plan, by their form."""
    return fits_field(layout_of(plan), thing)


def field_in(plan, field):
    """The layout of a plan; raises the errors of a wrong plan, and of a value that is no elements of it."""
    layout = layout_of(plan)
    if not fits_field(layout, field):
        raise BadField(field)
    return layout


def with_signal(layout, field, name, element):
    """The pair (elements, answer) when this has become the element of a gate or signal."""
    signals, points = field
    last, opening, passed, _ = element
    now = exchanged(signals, layout.starts.index(name), element)
    return ((now, points), ("signal", name, last, opening, passed))


def heard_by_signal(layout, field, letter):
    """The pair (elements, answer) after a letter to a gate or signal."""
    word, name, number = letter
    element = field[0][layout.starts.index(name)]
    last, opening, passed, _ = element
    if number > last:
        element = (number, number, False, True) if word == "open" else (number, opening, passed, False)
    return with_signal(layout, field, name, element)


def heard_by_points(layout, field, letter):
    """The pair (elements, answer) after a letter to points."""
    _, name, number, side = letter
    signals, points = field
    at = layout.points.index(name)
    last, _, lie = points[at]
    if number > last:
        last = number
        lie = side if lie == side else "between"
        points = exchanged(points, at, (last, side, lie))
    return ((signals, points), ("points", name, last, lie))


def heard_in(layout, field, stretches, letter):
    """The pair (elements, answer) after a letter while these stretches are taken."""
    word, name, number = letter[:3]
    if word == "look":
        return (field, ("seen", name, number, name not in stretches))
    if word == "throw":
        return heard_by_points(layout, field, letter)
    return heard_by_signal(layout, field, letter)


def hears(plan, field, taken, letter):
    """The pair (elements, answer) after a letter, taken being the stretches that are taken."""
    layout = field_in(plan, field)
    if not are_ascending(taken, layout.kinds):
        raise BadTaken(taken)
    if not fits_letter(layout, letter):
        raise BadLetter(letter)
    return heard_in(layout, field, taken, letter)


def passed_in(layout, field, name):
    """The pair (elements, answer) after a train has passed this gate or signal."""
    last, opening, _, _ = field[0][layout.starts.index(name)]
    return with_signal(layout, field, name, (last, opening, True, False))


def passes(plan, field, name):
    """The pair (elements, answer) after a train has passed this gate or signal."""
    layout = field_in(plan, field)
    if not is_one_of(name, layout.starts):
        raise BadName(name)
    return passed_in(layout, field, name)


def settled_in(layout, field, name):
    """The elements after these points have settled."""
    signals, points = field
    at = layout.points.index(name)
    last, wish, lie = points[at]
    return (signals, exchanged(points, at, (last, wish, wish))) if lie == "between" else field


def settles(plan, field, name):
    """The elements after these points have settled; the same ones if they do not lie between."""
    layout = field_in(plan, field)
    if not is_one_of(name, layout.points):
        raise BadName(name)
    return settled_in(layout, field, name)


def shows_in(layout, field):
    """The ascending tuple of the gates and signals that show go."""
    return tuple(sorted([name for name, element in zip(layout.starts, field[0]) if element[3]]))


def shows_of(plan, field):
    """The shows of a standing, by the elements."""
    return shows_in(field_in(plan, field), field)


def lies_in(layout, field):
    """The pairs (points, position) in the plan's order."""
    return tuple([(name, element[2]) for name, element in zip(layout.points, field[1])])


def lies_now(plan, field):
    """The lies of a standing, by the elements."""
    return lies_in(field_in(plan, field), field)
