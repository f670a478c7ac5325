"""The programs of the document, and others that the tests share."""

from fallsback.base.machines import Machine
from fallsback.base.programs import Program

TALK = Program(
    {
        "a": Machine((("send", "ask", 0, 1, "save"), ("take", "tell", 0, 1, None))),
        "b": Machine((("take", "ask", 0, 1, None), ("send", "tell", 0, 1, "save"))),
    },
    {"ask": ("a", "b", 1, True), "tell": ("b", "a", 1, True)},
)
CALM = TALK.with_keeping(("a", 0, 1, "save"), ("b", 0, 0, "save"))
ONCE = Program(
    {
        "p": Machine((("output", None, 1, 2, None),), (("send", "m", 2, 3, "save"),), ()),
        "q": Machine((("work", None, 1, 1, None), ("take", "m", 2, 4, None)), (), ()),
    },
    {"m": ("p", "q", 1, True)},
)

# Letters that can vanish, room for two of them, and all keepings.
LOSSY = Program(
    {
        "s": Machine((("send", "x", 0, 2, None), ("work", None, 0, 1, "save"), ("take", "y", 0, 1, "note"))),
        "t": Machine((("take", "x", 1, 3, "note"), ("send", "y", 0, 1, "save")), (("work", None, 0, 2, None),)),
    },
    {"x": ("s", "t", 2, False), "y": ("t", "s", 1, True)},
)

# Three processes hand letters round, one of them in a lane of its own to each.
RING = Program(
    {
        "a": Machine((("send", "ab", 0, 1, None), ("take", "ca", 0, 2, "save"))),
        "b": Machine((("take", "ab", 1, 1, "note"),), (("send", "bc", 0, 1, "save"), ("work", None, 1, 0, None))),
        "c": Machine((("take", "bc", 1, 4, None), ("output", None, 0, 2, "save")), (("send", "ca", 0, 3, None),)),
    },
    {"ab": ("a", "b", 1, True), "bc": ("b", "c", 2, False), "ca": ("c", "a", 1, True)},
)

# Nobody sends anything.
ALONE = Program({"a": Machine((("work", None, 0, 0, None),)), "b": Machine(())}, {})

# Programs with 40, 50, 23 and 87 standings, which side by side have just 2000, and just one more.
FORTY = Program(
    {
        "a": Machine(
            (("take", "m", 0, 1, None), ("send", "k", 0, 9, None), ("send", "k", 0, 2, None)),
            (("take", "m", 0, 1, None),),
        ),
        "b": Machine((("send", "m", 1, 0, None),), (("send", "m", 1, 1, "save"), ("send", "m", 0, 2, None))),
    },
    {"k": ("a", "b", 1, True), "m": ("b", "a", 2, True)},
)
FIFTY = Program(
    {
        "c": Machine(
            (("send", "l", 2, 9, "save"), ("send", "l", 1, 1, None), ("send", "l", 0, 0, None)),
            (("work", None, 2, 2, None), ("send", "l", 0, 9, None)),
            (("send", "l", 2, 2, None), ("send", "l", 0, 2, "save"), ("send", "l", 1, 1, None)),
        ),
        "d": Machine(
            (("work", None, 1, 9, "save"),),
            (("take", "l", 0, 2, None), ("take", "l", 1, 0, "note"), ("take", "l", 1, 2, None)),
        ),
    },
    {"l": ("c", "d", 1, False)},
)
FULL = FORTY | FIFTY
OVER = Program(
    {
        "a": Machine(
            (("work", None, 2, 1, None), ("send", "m", 2, 0, "save")),
            (("send", "k", 2, 0, None), ("send", "m", 1, 0, "save")),
            (("send", "k", 1, 1, None), ("work", None, 0, 2, None)),
        ),
        "b": Machine((("take", "k", 0, 9, None), ("output", None, 0, 9, None))),
        "c": Machine(
            (("send", "n", 1, 1, None), ("send", "n", 2, 1, "save")),
            (("output", None, 2, 9, None), ("send", "n", 1, 1, None), ("output", None, 0, 9, None)),
            (("work", None, 2, 2, None), ("send", "n", 0, 2, None)),
        ),
        "d": Machine((("take", "n", 1, 1, None),), (("work", None, 0, 1, None), ("work", None, 1, 1, None))),
    },
    {"k": ("a", "b", 1, True), "m": ("a", "b", 2, True), "n": ("c", "d", 1, True)},
)

# Programs with 40 and 50 layouts behind the run without steps, which side by side have just 2000.
LATER = Program(
    {
        "a": Machine(
            (("send", "m", 0, 1, None), ("send", "m", 2, 0, None)),
            (("work", None, 2, 9, None),),
            (("work", None, 1, 1, "save"), ("send", "m", 2, 1, None)),
        ),
        "d": Machine(
            (("work", None, 2, 0, None), ("take", "m", 0, 1, "save")),
            (("take", "m", 2, 1, "note"),),
            (("take", "m", 0, 0, "save"), ("output", None, 2, 9, None)),
        ),
    },
    {"m": ("a", "d", 1, True)},
) | Program(
    {
        "b": Machine(
            (("send", "l", 0, 1, None), ("send", "l", 2, 0, None)),
            (("send", "l", 2, 1, None),),
            (("take", "k", 0, 1, "note"),),
        ),
        "c": Machine(
            (("send", "k", 1, 2, "save"), ("output", None, 0, 1, None)),
            (("send", "k", 1, 1, "save"), ("take", "l", 1, 1, "save")),
        ),
    },
    {"k": ("c", "b", 1, True), "l": ("b", "c", 1, True)},
)

NAMES = {"TALK": TALK, "CALM": CALM, "ONCE": ONCE, "Machine": Machine, "Program": Program}
EVERY_PROGRAM = (TALK, CALM, ONCE, LOSSY, RING, ALONE)
