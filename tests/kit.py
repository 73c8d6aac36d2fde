"""What the tests share: things of any kind, and how a refusal is looked at."""

import copy
import inspect

FAMILIES = ("GroupError", "LostError", "LimitError")


def nested(deep):
    thing = 0
    for _ in range(deep):
        thing = (thing,)
    return thing


class Loud:
    """Alike everything, and of no use else."""

    def __eq__(self, other):
        return True

    __hash__ = None

    def __len__(self):
        raise RuntimeError("not to be asked")

    def __iter__(self):
        raise RuntimeError("not to be asked")


# None of these is a move, a word, a row of words, a whole number, a text or an object of the package.
ODD = [
    None, True, False, b"", b"01", [], [0], [1], [0, 1], [[0, 1]], {}, {0: 1}, {0: 0}, {"a": 1}, set(), {0}, {0, 1},
    frozenset({0}), range(2), object(), Loud(), int, len, (None,), (True,), (False,), (False, True),
    (0, True), ("a", "b", 0), (b"a",), ([0],), ({},), ((),), ((), 0), ((((),),),), nested(3), nested(10), ("",), ("1",),
    (10 ** 40,), (-10 ** 40,), (0, 10 ** 40), (0, 0), (0, 0, 1), (Loud(),), (0, Loud()), (set(),), (object(),),
]
TEXTS = ["", " ", "0", "1", "-1", "(0)", "a", "a b", "\n", "\u0661", "\u00b2"]
NUMBERS = [0, 1, -1, 7, 61, 10 ** 39, -10 ** 39]


def refusal(call, *given, **named):
    """What the call raises; it must leave what it is given as it was."""
    try:
        ahead = copy.deepcopy((given, named))
    except Exception:
        ahead = None
    try:
        told = call(*given, **named)
    except Exception as error:
        if ahead is not None and "Loud" not in repr(given) and "object at" not in repr((given, named)):
            assert repr(ahead) == repr((given, named)), "what was handed in was changed"
        return error
    raise AssertionError(f"not refused: {call.__name__} of {given!r} {named!r} told {told!r}")


def refused(case, kind, call, *given, **named):
    """The call is refused with just KIND, which is told back."""
    error = refusal(call, *given, **named)
    case.assertIs(type(error), kind, f"{call.__name__} of {given!r} {named!r}: {error!r}")
    return error


def by_place_and_name(case, call, **named):
    """The call tells the same by place, by name and by names the other way round."""
    told = call(*named.values())
    case.assertEqual(told, call(**named))
    case.assertEqual(told, call(**dict(reversed(list(named.items())))))
    takes = [name for name in inspect.signature(call).parameters]
    case.assertEqual(takes[:len(named)], list(named))
    return told


def just(case, one, other):
    """ONE is OTHER, and of the same kinds throughout: (True,) is not (1,)."""
    case.assertEqual(repr(one), repr(other))
    case.assertEqual(one, other)
