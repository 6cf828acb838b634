"""What several tests need: values of many kinds, and errors with what they keep."""

from itertools import combinations, permutations


class Agreeable:
    """Says of itself that it equals everything."""

    __hash__ = None

    def __eq__(self, other):
        return True


class Unshowable:
    """Can be neither shown nor compared."""

    def __repr__(self):
        raise RuntimeError("shown")

    def __eq__(self, other):
        raise RuntimeError("compared")

    __hash__ = None


def odd_values():
    """Values of many kinds, none of which is a name, an index, a tuple of names or a text of one."""
    return [
        None, True, False, -1, -10 ** 30, 10 ** 30, "", " ", "\n", "A", "1a", "a b\n", "%", "a" * 9, "a" * 4000,
        b"", b"a", (), (("a",),), (None,), [], ["a"], ["a", "b"], {}, {"a": 1}, {"a"}, frozenset(("a",)),
        object(), object, len, lambda: "a", range(3), slice(0, 1), iter("a"), ValueError("a"), NotImplemented, ...,
        Agreeable(), Agreeable, Unshowable(), nested(10),
    ]


def nested(depth):
    """A tuple that is nested this deep."""
    value = ()
    for _ in range(depth - 1):
        value = (value,)
    return value


def menus_of(things):
    """All menus of these ascending things."""
    return [menu for many in range(1, len(things) + 1) for menu in combinations(things, many)]


def rows_of(things):
    """All rows of these things."""
    return list(permutations(things))


def raised(case, kind, action, *args, **named):
    """The attributes of the error of just this class that the action raises."""
    with case.assertRaises(kind) as caught:
        action(*args, **named)
    case.assertIs(caught.exception.__class__, kind)
    return vars(caught.exception)


def assert_keeps(case, kind, name, value, action, *args, **named):
    """The action raises just this error; its one attribute is this very value."""
    kept = raised(case, kind, action, *args, **named)
    case.assertEqual(list(kept), [name])
    case.assertIs(kept[name], value)


def assert_index(case, kind, index, action, *args, **named):
    """The action raises just this error with this index."""
    kept = raised(case, kind, action, *args, **named)
    case.assertEqual(list(kept), ["index"])
    case.assertIs(kept["index"].__class__, index.__class__)
    case.assertEqual(kept["index"], index)


def odd_parts():
    """Some odd values, to be put in many places."""
    return [
        None, True, False, -1, 10 ** 30, "", "a", "-", b"a", (), ((),), [], {}, {"a"}, object(), Agreeable(),
        Unshowable(),
    ]


def bent(value):
    """Values that are much like this one, but for one place in it."""
    yield from odd_parts()
    if isinstance(value, tuple):
        yield from bent_tuples(value)
    elif isinstance(value, str):
        yield from bent_texts(value)
    elif isinstance(value, int):
        yield from [value + 1, value - 1, -value, value == 1, str(value), (value,), [value]]


def bent_tuples(value):
    """Tuples with one element more or less, two exchanged or one bent, and a list."""
    yield from [list(value), value + value, value[::-1], value + (None,), (value,), dict.fromkeys(range(len(value)))]
    for at, part in enumerate(value):
        yield value[:at] + value[at + 1:]
        yield value[:at + 1] + value[at:]
        if at > 0:
            yield value[:at - 1] + (part, value[at - 1]) + value[at + 1:]
        for each in bent(part):
            yield value[:at] + (each,) + value[at + 1:]


def bent_texts(value):
    """Texts with one sign more or less, two exchanged or one changed, and what is no text."""
    yield from [value + "\n", " " + value, value + " ", value.upper(), value + value, value + "; " + value, list(value),
                tuple(value), value.encode(), value.split(" "), value[::-1], (value,), value.replace(" ", ", ")]
    for at, sign in enumerate(value):
        yield value[:at] + value[at + 1:]
        yield value[:at + 1] + value[at:]
        yield value[:at] + value[at + 1:at + 2] + sign + value[at + 2:]
        for each in "abc+-? ;1A":
            yield value[:at] + each + value[at + 1:]
