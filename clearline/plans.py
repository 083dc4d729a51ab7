"""Plans of track, and their texts."""

from clearline.errors import BadPlan, BadText
from clearline.forms import are_items, is_integer, is_name, is_tuple_of

KINDS = ("plain", "points", "crossing")
GREATEST_END = 3
# A word that is no key here writes a number otherwise than the text of a plan does ("01", "+1").
NUMBERS = {"0": 0, "1": 1, "2": 2, "3": 3}
FIRST_WORDS = ("stretch", "join", "gate", "signal")


def is_end_number(thing):
    """Whether thing can be the number of an end of some stretch."""
    return is_integer(thing) and 0 <= thing <= GREATEST_END


def is_end(thing):
    """Whether thing has the form of an end; no plan is asked whether the end is there."""
    return is_tuple_of(thing, 2) and is_name(thing[0]) and is_end_number(thing[1])


def is_step(thing):
    """Whether thing has the form of a step (name of a stretch, from, to)."""
    return is_tuple_of(thing, 3) and is_end(thing[:2]) and is_end_number(thing[2])


def is_stretch(thing):
    """Whether thing has the form of a stretch (name, kind)."""
    return is_tuple_of(thing, 2) and is_name(thing[0]) and thing[1] in KINDS


def is_joint(thing):
    """Whether thing has the form of a joint (end, end)."""
    return is_tuple_of(thing, 2) and is_end(thing[0]) and is_end(thing[1])


def is_gate(thing):
    """Whether thing has the form of a gate (name, end)."""
    return is_tuple_of(thing, 2) and is_name(thing[0]) and is_end(thing[1])


def is_overlap(thing):
    """Whether thing has the form of an overlap: no step or one."""
    return are_items(thing, is_step) and len(thing) <= 1


def is_signal(thing):
    """Whether thing has the form of a signal (name, end, overlap)."""
    return is_tuple_of(thing, 3) and is_gate(thing[:2]) and is_overlap(thing[2])


# In the order of FIRST_WORDS, which is that of the parts of a plan.
ITEM_FORMS = (is_stretch, is_joint, is_gate, is_signal)


def is_plan(thing):
    """Whether thing, which can be any value, is a plan; it may have faults."""
    if not is_tuple_of(thing, 4):
        return False
    stretches, joints, gates, signals = thing
    if not are_items(stretches, is_stretch) or not are_items(joints, is_joint):
        return False
    return are_items(gates, is_gate) and are_items(signals, is_signal)


def end_text(end):
    """The two words of an end."""
    name, number = end
    return f"{name} {number}"


def signal_text(signal):
    """The line of a signal."""
    name, end, overlap = signal
    line = f"signal {name} {end_text(end)}"
    for stretch, start, goal in overlap:
        line = f"{line} over {stretch} {start} {goal}"
    return line


def plan_text(plan):
    """The text of a plan: a line for each item, in the plan's order."""
    if not is_plan(plan):
        raise BadPlan(plan)
    stretches, joints, gates, signals = plan
    lines = [f"stretch {name} {kind}" for name, kind in stretches]
    lines.extend([f"join {end_text(one)} {end_text(other)}" for one, other in joints])
    lines.extend([f"gate {name} {end_text(end)}" for name, end in gates])
    lines.extend([signal_text(signal) for signal in signals])
    return "\n".join(lines)


def read_end(name, number):
    """The end that two words give; None stands for a number that is written wrong."""
    return (name, NUMBERS.get(number))


def read_overlap(words):
    """The overlap that the words after a signal's end give, or None if they give none."""
    if not words:
        return ()
    if len(words) != 4 or words[0] != "over":
        return None
    return ((words[1], NUMBERS.get(words[2]), NUMBERS.get(words[3])),)


def read_item(words):
    """What the words of a line give, or None if their number is wrong; its form is not tested."""
    word, many = words[0], len(words)
    if word == "stretch" and many == 3:
        return (words[1], words[2])
    if word == "join" and many == 5:
        return (read_end(words[1], words[2]), read_end(words[3], words[4]))
    if word == "gate" and many == 4:
        return (words[1], read_end(words[2], words[3]))
    if word == "signal" and many >= 4:
        return (words[1], read_end(words[2], words[3]), read_overlap(words[4:]))
    return None


def read_line(line):
    """The pair (position of its part in a plan, item) of a line, or None if it has no right form."""
    words = line.split(" ")
    if words[0] not in FIRST_WORDS:
        return None
    part = FIRST_WORDS.index(words[0])
    item = read_item(words)
    has_form = ITEM_FORMS[part]
    return (part, item) if has_form(item) else None


def lines_of(text):
    """The lines of a text; the empty text has none."""
    return text.split("\n") if text else []


def read_plan(text):
    """The plan of a text."""
    if not isinstance(text, str):
        raise BadText(0)
    parts = [[], [], [], []]
    latest = 0
    for number, line in enumerate(lines_of(text), start=1):
        found = read_line(line)
        if found is None or found[0] < latest:
            raise BadText(number)
        latest, item = found
        parts[latest].append(item)
    return tuple([tuple(items) for items in parts])
