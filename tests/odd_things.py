"""Things of many kinds, for refusals that are told of whatever is handed in."""


class Untouched:
    """Fails whoever looks at it."""

    def fail(self, *given):
        raise AssertionError("this part was looked at")

    __eq__ = __ne__ = __lt__ = __gt__ = __hash__ = __bool__ = __len__ = fail
    __iter__ = __getitem__ = __contains__ = __int__ = __index__ = __str__ = __repr__ = fail


class Agreeing:
    """Says of itself that it is like everything."""

    def __eq__(self, other):
        return True

    def __hash__(self):
        return hash("read")


def no_texts():
    numbers = [0, 1, -1, 10 ** 59, 10 ** 5000, 1.5, True, False]
    several = [[], ["read"], ["yield"], (), ("read",), ("own",), ("read", 0, 0, None), {}, {"read": True}, {"read"}]
    return numbers + several + [None, b"read", b"yield", object(), str, Untouched(), Agreeing()]
