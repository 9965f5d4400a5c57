"""What several tests use: things of many kinds, well-built parts, and parts with one thing otherwise."""

from frozenmakers.books import MODULUS, Book, Function
from frozenmakers.errors import NoBook
from frozenmakers.plain import Plain
from frozenmakers.texts import book_of

NONE = ("none",)
ONE = ("number", 1)
A = ("box", "a")
SUM = ("plus", A, ONE)


class Same:
    """Says of everything that it is the same."""

    def __eq__(self, other):
        return True

    def __hash__(self):
        return 0


class Wild:
    """Can't be compared, measured, shown or asked whether it is so."""

    def _never(self, *told):
        raise RuntimeError("asked")

    __eq__ = __hash__ = __len__ = __iter__ = __bool__ = __repr__ = __str__ = __getitem__ = _never


def things():
    """Things of many kinds, none of them a name, an expression, a statement, a body, a function, a book or a text."""
    return [
        None, True, False, 0, 1, -1, 1.5, 1j, 10 ** 5000, "", b"", b"a", [], {}, {"a": 1}, set(), {"a"}, frozenset(),
        bytearray(b"a"), object(), print, len, str, int, Function, Book, NoBook, Ellipsis, NotImplemented, range(2),
        iter([]), (each for each in []), Same(), Wild(), [Same()], (Wild(),), (Same(),), ([],), ((),), ("",), (None,),
        ("nothing",), ("none", ("none",)), ["none"], [("none",)], slice(1), memoryview(b"a"), Exception("a"),
    ]


def leaves():
    """Expressions that hold no others."""
    return [("number", 0), ("number", 7), ("number", MODULUS - 1), NONE, A, ("box", "zzzzzzzz"), ("box", "pull")]


def expressions():
    """Well-built expressions."""
    found = leaves()
    for sign in ("plus", "less", "times", "under", "same"):
        found.append((sign, ONE, A))
        found.append((sign, (sign, NONE, ONE), ("times", A, ("same", A, A))))
    return found


def wrong_expressions():
    """Things that are no expressions, each but little away from one."""
    found = [
        ("number", -1), ("number", MODULUS), ("number", MODULUS + 3), ("number", True), ("number", False),
        ("number", 1.0), ("number", "1"), ("number", None), ("number",), ("number", 1, 1), ["number", 1],
        (), ("none", None), ["none"], ("None",), ("nothing",), "none", None, 1, "a",
        ("box",), ("box", "a", "a"), ("box", "A"), ("box", "none"), ("box", "set"), ("box", "abcdefghi"), ("box", ""),
        ("box", "a1"), ("box", None), ("box", b"a"), ("box", ("box", "a")), ["box", "a"], ("name", "a"),
        ("plus",), ("plus", A), ("plus", A, A, A), ["plus", A, A], ("plus", [A, A]), ("plus", "a", A), ("plus", A, 1),
        ("+", A, A), ("over", A, A), ("Plus", A, A), (["plus"], A, A), (Same(), A, A), (b"plus", A, A),
        ("say", A), ("set", "a", A), ("break",), (A,), (A, "plus", A),
    ]
    for sign in ("plus", "less", "times", "under", "same"):
        found.append((sign, ("number", MODULUS), A))
        found.append((sign, A, ("number", True)))
        found.append((sign, A, (sign, A, (sign, (sign, A, ("box", "end")), A))))
    return found + things()


def with_expression(part):
    """Every statement in which an expression stands, the part in each of its places."""
    return [
        ("set", "b", part), ("say", part), ("give", "b", part), ("if", part, (), ()), ("while", part, ()),
        ("return", part), ("throw", part), ("make", "b", "two", (part, ONE)), ("make", "b", "two", (ONE, part)),
        ("make", "b", "one", (part,)), ("pull", "b", "ask", part, ONE, ()), ("pull", "b", "toss", ONE, part, ()),
        ("close", part), ("all", "b", part),
    ]


def with_box(name):
    """Every statement that sets a box, the name in its place."""
    return [
        ("set", name, ONE), ("give", name, ONE), ("try", (), name, (), ()), ("make", name, "nought", ()),
        ("pull", name, "ask", A, ONE, ()), ("all", name, A),
    ]


def with_body(body):
    """Every statement with bodies, the body in each of their places."""
    return [
        ("if", ONE, body, ()), ("if", ONE, (), body), ("while", ONE, body), ("try", body, "b", (), ()),
        ("try", (), "b", body, ()), ("try", (), "b", (), body), ("try", body, None, (), (("say", ONE),)),
        ("pull", "b", "ask", A, ONE, body), ("pull", "b", "toss", A, ONE, body),
    ]


def others():
    """Functions that the statements told here make."""
    return [Function("nought", (), ()), Function("one", ("a",), ()), Function("two", ("a", "b"), ())]


def book_with(*body):
    """A book of a function of this body, and of those that it makes."""
    return Book([Function("main", (), body)] + others())


def refused(case, what, call, **fields):
    """Checks that the call is refused so, by this very class and with these fields."""
    with case.assertRaises(what) as seen:
        call()
    case.assertIs(what, seen.exception.__class__)
    case.assertEqual(fields, vars(seen.exception))


def book(text):
    """The book of a text, in which its rows may be parted by semicolons."""
    return book_of("".join(row.strip() + "\n" for row in text.replace(";", "\n").split("\n") if row.strip()))


def plain(text, **more):
    """A plain run of the book of such a text."""
    return Plain(book(text), **more)


def done(run, *deeds):
    """What is told of each deed, of the way, the maker's number, and what is sent or tossed."""
    return [getattr(run, way)(*rest) for way, *rest in deeds]


def seen(run):
    """All that a plain run tells of its makers without asking them."""
    numbers = range(1, len(run) + 1)
    return [run.said(), [(run.state(k), run.alive(k), run.held(k)) for k in numbers]]
