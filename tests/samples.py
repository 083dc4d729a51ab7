"""Plans and values that several tests use, and ways to spoil them."""

import copy

LOOP_TEXT = (
    "stretch w plain\nstretch p points\nstretch a plain\nstretch b plain\nstretch q points\n"
    "stretch e plain\njoin w 1 p 0\njoin p 1 a 0\njoin p 2 b 0\njoin a 1 q 1\njoin b 1 q 2\n"
    "join q 0 e 0\ngate west w 0\ngate east e 1\nsignal sa a 1\nsignal sb b 0"
)
LOOP = (
    (("w", "plain"), ("p", "points"), ("a", "plain"), ("b", "plain"), ("q", "points"), ("e", "plain")),
    (
        (("w", 1), ("p", 0)),
        (("p", 1), ("a", 0)),
        (("p", 2), ("b", 0)),
        (("a", 1), ("q", 1)),
        (("b", 1), ("q", 2)),
        (("q", 0), ("e", 0)),
    ),
    (("west", ("w", 0)), ("east", ("e", 1))),
    (("sa", ("a", 1), ()), ("sb", ("b", 0), ())),
)
EMPTY = ((), (), (), ())

# Each kind of stretch, gates, a buffer, and signals with and without an overlap.
FULL_TEXT = (
    "stretch a plain\nstretch o plain\nstretch x crossing\nstretch b plain\nstretch p points\n"
    "join a 1 o 0\njoin o 1 x 0\njoin b 1 x 2\njoin x 1 p 0\n"
    "gate west a 0\nsignal s a 1 over o 0 1\nsignal u o 1 over x 0 1\nsignal v b 1"
)
FULL = (
    (("a", "plain"), ("o", "plain"), ("x", "crossing"), ("b", "plain"), ("p", "points")),
    ((("a", 1), ("o", 0)), (("o", 1), ("x", 0)), (("b", 1), ("x", 2)), (("x", 1), ("p", 0))),
    (("west", ("a", 0)),),
    (("s", ("a", 1), (("o", 0, 1),)), ("u", ("o", 1), (("x", 0, 1),)), ("v", ("b", 1), ())),
)

# Names may be the words of the lines, and this plan has no fault.
WORDS_TEXT = (
    "stretch stretch plain\nstretch join plain\nstretch over crossing\nstretch plain plain\n"
    "join stretch 1 join 0\njoin join 1 over 3\njoin plain 0 over 0\n"
    "gate gate stretch 0\nsignal signal stretch 1 over join 0 1\nsignal points join 1 over over 3 2\n"
    "signal crossing plain 0 over over 0 1"
)
WORDS = (
    (("stretch", "plain"), ("join", "plain"), ("over", "crossing"), ("plain", "plain")),
    ((("stretch", 1), ("join", 0)), (("join", 1), ("over", 3)), (("plain", 0), ("over", 0))),
    (("gate", ("stretch", 0)),),
    (
        ("signal", ("stretch", 1), (("join", 0, 1),)),
        ("points", ("join", 1), (("over", 3, 2),)),
        ("crossing", ("plain", 0), (("over", 0, 1),)),
    ),
)

# Faults do not keep a value from being a plan.
FAULTY = (
    (("a", "plain"), ("a", "points")),
    ((("a", 3), ("z", 0)), (("a", 0), ("a", 0))),
    (("a", ("z", 3)), ("g", ("a", 0))),
    (("a", ("y", 2), (("k", 3, 3),)), ("a", ("y", 2), (("k", 0, 2),))),
)

GOOD_NAMES = ("a", "z", "a1", "z9", "a0b1c2d3", "abcdefgh", "w2345678", "over", "stretch")
WRONG_NAMES = (
    "", "abcdefghi", "a12345678", "1a", "0", "9", "A", "aB", "Ab", "a b", " a", "a ", "a\n", "\na", "\n", " ",
    "a_", "_a", "a-b", "a.b", "`", "a`", "{", "a{", "a/", "a:", "@", "a@", "[", "\u00e9", "a\u0661", "\u0661",
    None, 0, 1, True, (), ("a",), ["a"], {"a": 1}, b"a",
)
WRONG_NUMBERS = (-1, 4, 5, 10 ** 40, -(10 ** 40), True, False, "0", "", None, (), (0,), [0], {0: 0}, b"0")
ANY_VALUES = (
    None, True, False, 0, 1, -1, 10 ** 40, "", "a", LOOP_TEXT, b"", (), [], {}, (None,), [()], {"a": ()},
    ((), (), ()), ((), (), (), (), ()), [(), (), (), ()], ([], (), (), ()), ((), [], (), ()),
    ((), (), [], ()), ((), (), (), []), ((), (), (), None), ("", "", "", ""), ({}, {}, {}, {}),
    {0: (), 1: (), 2: (), 3: ()}, ((((((((((((),),),),),),),),),),),),
)


def places(value, place=()):
    """The places of all parts of a value of nested tuples, the value itself first."""
    yield place
    if isinstance(value, tuple):
        for at, item in enumerate(value):
            yield from places(item, place + (at,))


def part(value, place):
    """The part at a place."""
    for at in place:
        value = value[at]
    return value


def changed(value, place, new):
    """The value with another part at a place."""
    if not place:
        return new
    at = place[0]
    return value[:at] + (changed(value[at], place[1:], new),) + value[at + 1:]


def spoiled(plan):
    """Values that are no plans because one part of this plan has another form."""
    for place in places(plan):
        old = part(plan, place)
        if isinstance(old, tuple):
            yield changed(plan, place, list(old))
            yield changed(plan, place, {at: item for at, item in enumerate(old)})
            yield changed(plan, place, None)
            yield changed(plan, place, "")
            if len(place) != 1:
                yield changed(plan, place, old + ("a",))
                yield changed(plan, place, old + (0,))
            if old and len(place) != 1 and not (len(place) == 3 and place[0] == 3 and place[2] == 2):
                yield changed(plan, place, old[:-1])
                yield changed(plan, place, old[1:])
                yield changed(plan, place, ())
        elif isinstance(old, int):
            for number in WRONG_NUMBERS:
                yield changed(plan, place, number)
        elif place[0] == 0 and place[2:] == (1,):
            for kind in ("", "Plain", "plain ", "point", "switch", "a", None, 0, True, (), ["plain"], {"plain": 1}):
                yield changed(plan, place, kind)
        else:
            for name in WRONG_NAMES:
                yield changed(plan, place, name)


def wrong_kinds(value):
    """The value with one part of another kind than it should be: a list for a tuple, a bool for an integer."""
    for place in places(value):
        old = part(value, place)
        if isinstance(old, tuple):
            news = (list(old), {at: item for at, item in enumerate(old)}, None, "", 0, True)
        elif isinstance(old, bool):
            news = (int(old), str(old), None, (), (old,), [old])
        elif isinstance(old, int):
            news = (bool(old), str(old), None, (), (old,), [old])
        else:
            news = (None, 0, True, (), (old,), [old], {old: 0})
        for new in news:
            yield changed(value, place, new)


def wrong_lengths(value, is_free):
    """The value with one of its tuples too long or too short; is_free tells the places of those of any length."""
    for place in places(value):
        old = part(value, place)
        if isinstance(old, tuple) and not is_free(place):
            news = [old + ("a",), old + (0,), old + ((),), old + old[-1:], old[:-1], old[1:], ()]
            for new in news:
                if len(new) != len(old):
                    yield changed(value, place, new)


def same_calls(test, function, arguments, expected):
    """Tests a call by position and by name, twice, and that it leaves its arguments as they were."""
    before = copy.deepcopy(arguments)
    for _ in range(2):
        test.assertEqual(function(*arguments.values()), expected)
        test.assertEqual(function(**arguments), expected)
    test.assertEqual(arguments, before)


def raises(test, function, arguments, error, thing):
    """Tests that a call, by position and by name, raises just this error with just this value."""
    for call in (lambda: function(*arguments.values()), lambda: function(**arguments)):
        with test.assertRaises(error) as caught:
            call()
        test.assertIs(type(caught.exception), error)
        test.assertIs(caught.exception.thing, thing)
