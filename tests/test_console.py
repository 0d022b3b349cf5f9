"""Console (promises 51 and 52; section 14 of the interface)."""

import random
import unittest

from boxrows import console as module
from boxrows.boxes import Box
from boxrows.console import Console
from boxrows.errors import InvalidCommand, InvalidIndex, InvalidName, NameTaken, Nothing, TooLarge
from tests.models import SlowShelf, any_call, box_text
from tests.rows import any_box, play_rounds
from tests.wrong import NO_FRACTIONS, NO_NUMBERS

GREAT = 10 ** 30
FAR = 10 ** 100 - 1


def fraction_text(value):
    return f"{value[0]}" if value[1] == 1 else f"{value[0]}/{value[1]}"


def command_of(step):
    """The command for a call, and how its answer is written."""
    call, first, *rest = step
    if call in ("put", "change"):
        return " ".join([call, box_text(first, rest[0])] + [str(place) for place in rest[1:]])
    return " ".join([call, str(first)] + [str(number) for number in rest])


def answer_of(step, value):
    if step[0] == "take":
        return box_text(step[1], value)
    if step[0] == "drag":
        return " ".join(map(str, value))
    return fraction_text(value)


def questions(console, names):
    """All answers that change nothing."""
    found = [console.execute(command) for command in ("names", "rounds", "spare")]
    return found + [console.execute(f"{word} {name}") for word in ("size", "pixel") for name in names]


def wanted_answers(slow):
    names = slow.names()
    boxes = [box for _, box in slow.row]
    found = [" ".join(names) or "-", str(len(play_rounds(boxes, slow.room())[0]) - 1) if boxes else "-", fraction_text(slow.spare())]
    return found + [fraction_text(size) for _, size in slow.shares()] + [f"{begin} {size}" for _, begin, size in slow.pixels()]


class ConsoleTest(unittest.TestCase):
    def test_against_the_slow_shelf(self):
        source = random.Random(1301)
        for _ in range(30):
            console, slow = Console(), SlowShelf(0)
            for _ in range(30):
                chance = source.random()
                if chance < 0.06:
                    slow = SlowShelf(source.randint(0, 60))
                    self.assertEqual(console.execute(f"start {slow.whole}"), "ok")
                elif chance < 0.12:
                    slow = SlowShelf(source.randint(0, 60), source.randint(0, 35))
                    self.assertEqual(console.execute(f"frame {slow.whole} {slow.border}"), "ok")
                elif chance < 0.25 and slow.earlier:
                    slow.undo()
                    self.assertEqual(console.execute("undo"), "ok")
                else:
                    step = any_call(source, slow, any_box)
                    value = getattr(slow, step[0])(*step[1:])
                    self.assertEqual(console.execute(command_of(step)), answer_of(step, value))
                self.assertEqual(questions(console, slow.names()), wanted_answers(slow))

    def test_at_first(self):
        console = Console()
        self.assertEqual(questions(console, []), ["-", "-", "0"])
        self.assertEqual([console.execute(command) for command in ("put a:0+1", "size a", "pixel a", "rounds", "spare")], ["0", "0", "0 0", "1", "0"])

    def test_by_hand(self):
        console = Console()
        rows = [
            ("start 10", "ok"), ("spare", "10"), ("names", "-"), ("rounds", "-"), ("resize 7", "7"), ("put b:3", "4"), ("rounds", "0"),
            ("put a:0+1 0", "0"), ("names", "a b"), ("size a", "4"), ("pixel b", "4 3"), ("put c:0/0-9+2~0 1", "0"), ("size a", "4/3"),
            ("pixel a", "0 1"), ("pixel c", "1 3"), ("take c", "c:0-9+2"), ("undo", "ok"), ("move c 2", "0"), ("names", "a b c"),
            ("change c:1/1-1", "0"), ("take c", "c:1/1-1"), ("put c:5-0", "0"), ("take c", "c:5-0"), ("drag a 0", "4 3"), ("take a", "a:4"),
            ("undo", "ok"), ("drag a -3", "1 6"), ("drag a -0", "1 6"), ("drag a 999", "7 0"), ("resize 8", "1"), ("undo", "ok"),
            ("undo", "ok"), ("undo", "ok"), ("undo", "ok"), ("undo", "ok"), ("size a", "4"), ("frame 9 2", "ok"), ("spare", "5"),
            ("put a:0+1", "0"), ("pixel a", "2 5"), ("resize 3", "0"), ("pixel a", "2 0"), ("change a:4", "-4"), ("spare", "-4"),
        ]
        for at, (command, answer) in enumerate(rows):
            self.assertEqual(console.execute(command), answer, (at, command))

    def test_rounds(self):
        console = Console()
        for command in ("start 30", "put a:0-9+1", "put b:0-10+1", "put c:0+1"):
            console.execute(command)
        self.assertEqual([console.execute("rounds"), console.execute("resize 40"), console.execute("rounds")], ["3", "0", "2"])
        console.execute("frame 40 5")
        for command in ("put a:0-9+1", "put b:0-10+1", "put c:0+1"):
            console.execute(command)
        self.assertEqual(console.execute("rounds"), "3")

    def test_nothing_is_left_to_undo(self):
        for word in ("start 7", "frame 7 1"):
            console = Console()
            console.execute("put a:1")
            self.assertEqual([console.execute(word), console.execute("names")], ["ok", "-"])
            with self.assertRaises(Nothing):
                console.execute("undo")
            console.execute("put b:1")
            self.assertEqual([console.execute("undo"), console.execute("names")], ["ok", "-"])
            with self.assertRaises(Nothing):
                console.execute("undo")

    def test_each_console_has_its_own_shelf(self):
        one, two = Console(), Console()
        one.execute("start 9")
        one.execute("put a:1")
        self.assertEqual([two.execute("names"), two.execute("spare"), one.execute("names")], ["-", "0", "a"])

    def test_great_numbers(self):
        console = Console()
        self.assertEqual([console.execute(f"start {FAR}"), console.execute(f"put a:{GREAT}/{GREAT}-{GREAT}+1000000~1000000"),
                          console.execute("put b:0+1"), console.execute("size b"), console.execute("pixel b")],
                         ["ok", str(FAR - GREAT), "0", str(FAR - GREAT), f"{GREAT} {FAR - GREAT}"])
        self.assertEqual([console.execute(f"frame {FAR} {FAR}"), console.execute("spare"), console.execute(f"resize {FAR}")], ["ok", "0", "0"])
        console.execute(f"frame 0 {FAR}")
        self.assertEqual([console.execute("put a:0"), console.execute("pixel a")], ["0", f"{FAR} 0"])
        console.execute("start 5")
        console.execute("put a:2")
        console.execute("put b:3")
        self.assertEqual([console.execute(f"drag a {FAR}"), console.execute(f"drag a -{FAR}")], ["5 0", "0 5"])

    def test_defined_in_its_file(self):
        self.assertEqual([Console.__module__, module.Console, "execute" in vars(Console)], ["boxrows.console", Console, True])


class WrongCommandsTest(unittest.TestCase):
    def setUp(self):
        self.console = Console()
        for command in ("start 26", "put a:10+1", "put x:10/2+1~2", "put d:0+1"):
            self.console.execute(command)
        self.before = questions(self.console, ["a", "x", "d"])

    def fails(self, error, command):
        with self.subTest(command=command):
            with self.assertRaises(error) as caught:
                self.console.execute(command)
            self.assertIs(caught.exception.__class__, error)
            self.assertEqual(questions(self.console, ["a", "x", "d"]), self.before)

    def test_no_commands(self):
        for command in NO_NUMBERS + NO_FRACTIONS + [5, b"names", ["names"], ("names",), Box(1), Console]:
            self.fails(InvalidCommand, command)
        for command in ("", " ", "-", "Names", "NAMES", "name", "names names", "names 1", "help", "log", "width", "border", "preview", "n", "quit",
                        "spare 1", "rounds 1", "rounds a", "undo 1", "undo undo", "shares", "pixels", "share", "start", "frame", "frame 5",
                        "frame 5 2 1", "start 5 2", "resize", "resize 5 5", "take", "take a x", "size", "size a x", "pixel", "pixel a x",
                        "put", "change", "move a", "move", "move a 1 1", "drag a", "drag", "drag a 1 1", "put q:1 1 1", "change q:1 0", "move 1 a",
                        "drag 1 a", "put 0 q:1"):
            self.fails(InvalidCommand, command)

    def test_other_spaces(self):
        for command in ("names", "size a", "drag a 3", "put q:1", "put q:1 0", "undo", "resize 5", "move a 0", "frame 5 2"):
            for wrong in (" " + command, command + " ", command.replace(" ", "  ", 1) if " " in command else command + "  ",
                          command + "\n", "\t" + command, command.replace(" ", "\t", 1) if " " in command else command + "\t",
                          command.replace(" ", "\n", 1) if " " in command else "\n" + command):
                self.fails(InvalidCommand, wrong)

    def test_wrong_numbers(self):
        numbers = ["", "-1", "+1", "01", "00", "1.0", "1e3", "0x1", "a", "1_0", "-", "--1", "\u0661", "\u00b2", "1/2", "1" + "0" * 100, "9" * 101,
                   "0" * 100, "None", "(1,2)", "1,0"]
        for number in numbers + ["-0"]:
            for word in ("start", "resize", "frame 5", "put q:1", "move a"):
                self.fails(InvalidCommand, f"{word} {number}")
            self.fails(InvalidCommand, f"frame {number} 5")
        for number in numbers:
            if number != "-1":
                self.fails(InvalidCommand, f"drag a {number}")
                self.fails(InvalidCommand, f"drag a -{number}" if number not in ("", "-") else "drag a -")
        self.fails(InvalidCommand, "drag a -" + "9" * 101)
        self.fails(InvalidCommand, "drag a --0")

    def test_wrong_names_and_boxes(self):
        for name in ("", "A", "abcdefghi", "a1", "a:1", "-", "1", "a/", "\u00e4", "a,x"):
            for word in ("take", "size", "pixel"):
                self.fails(InvalidCommand, f"{word} {name}")
            for word in ("move", "drag"):
                self.fails(InvalidCommand, f"{word} {name} 1")
        for box in ("q", "q:", ":1", "Q:1", "q:01", "q:-1", "q:1+", "q:1~1+1", "q:1-2/1", "q:1/2-1", f"q:{GREAT + 1}", "q:1+1000001", "q:1~1000001",
                    f"q:1/{GREAT + 1}", f"q:1-{GREAT + 1}", "q:1:1", "abcdefghi:1", "q:1/", "q :1", "x[", "]", "{", "|", "q:1+01", "q:+1"):
            for command in (f"put {box}", f"put {box} 0", f"change {box}"):
                self.fails(InvalidCommand, command)

    def test_errors_of_the_calls(self):
        rows = [
            ("size q", InvalidName), ("pixel q", InvalidName), ("take q", InvalidName), ("move q 0", InvalidName), ("move q 9", InvalidName),
            ("change q:1", InvalidName), ("drag q 1", InvalidName), ("drag d 1", InvalidName), ("drag d -1", InvalidName),
            ("move a 3", InvalidIndex), (f"move a {FAR}", InvalidIndex), ("put q:1 4", InvalidIndex), ("put a:1 4", InvalidIndex),
            (f"put q:1 {FAR}", InvalidIndex), ("put a:1", NameTaken), ("put x:1 0", NameTaken), ("size abcdefgh", InvalidName),
        ]
        for command, error in rows:
            self.fails(error, command)
        while self.console.execute("names") != "-":
            self.console.execute("undo")
        with self.assertRaises(Nothing):
            self.console.execute("undo")

    def test_too_large(self):
        console = Console()
        console.execute("start 0")
        names = [one + two for one in "abcd" for two in "abcdefghij"]
        for name in names:
            console.execute(f"put {name}:1")
        for command in ("put q:1", "put q:1 40", "put q:1 0"):
            with self.assertRaises(TooLarge) as caught:
                console.execute(command)
            self.assertEqual(caught.exception.limit, 40)
        self.assertEqual(console.execute("names"), " ".join(names))
        console.execute(f"start {2 * GREAT + 1}")
        console.execute("put a:0+1")
        console.execute("put b:0+1")
        with self.assertRaises(TooLarge) as caught:
            console.execute("drag a 0")
        self.assertEqual([caught.exception.limit, console.execute("size a")], [GREAT, f"{2 * GREAT + 1}/2"])
        console.execute("undo")
        self.assertEqual(console.execute("names"), "a")


if __name__ == "__main__":
    unittest.main()
