"""Values of all kinds that may be passed where the document describes an error, and that fit nowhere."""


class AlwaysEqual:
    """An object that claims to equal whatever it is compared with."""

    def __eq__(self, other):
        return True

    def __hash__(self):
        return 0


class NeverAnswers:
    """An object that fails at whatever it is asked."""

    def __eq__(self, other):
        raise RuntimeError("compared")

    def __hash__(self):
        raise RuntimeError("hashed")

    def __len__(self):
        raise RuntimeError("measured")

    def __bool__(self):
        raise RuntimeError("tested")

    def __iter__(self):
        raise RuntimeError("iterated")

    def __repr__(self):
        raise RuntimeError("shown")

    __str__ = __repr__


def nested(depth):
    """Tuples in one another, so many of them."""
    value = ()
    for _ in range(depth - 1):
        value = (value,)
    return value


def odd_values():
    """Values that are no name, literal, rule, setting, text, panel, and no tuple of switches."""
    return [
        None, True, False, 0, 1, -1, 10 ** 59, b"", b"a", b"+", [], ["a"], {}, {"a": "+"}, set(), {"a"},
        frozenset(["a"]), nested(20), [[[["a"]]]], len, str, int, object, object(), lambda: "a", range(3),
        bytearray(b"a"), ValueError("a"), AlwaysEqual(), NeverAnswers(), iter(["a"]), Ellipsis, NotImplemented,
        (None,), (True,), (1, 2), (("a",),), ([],), (AlwaysEqual(),), (NeverAnswers(),),
    ]


def odd_elements():
    """Odd values that are no string and no tuple, to stand within tuples."""
    return [value for value in odd_values() if not isinstance(value, tuple)]
