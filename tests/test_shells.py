"""[N6]: commands to a bench as texts."""

import random
import unittest

import drawn
from frankmarks.benches import Bench, FrankBench
from frankmarks.errors import FrankError
from frankmarks.forms import best, worth
from frankmarks.lies import lie
from frankmarks.papers import stand, useful
from frankmarks.shells import Shell
from frankmarks.texts import belief_text, menu_text, row_text
from judges import averages
from odd_values import ODD_VALUES
from test_benches import forty
from workbench import BUSY_COMMANDS, F, U, Working, told

UNKNOWN = "unknown command"
COMMANDS = (
    "put 1,-2", "drop 0", "mark 1 0 -7", "shift 2,10", "undo", "menu", "edits", "useful", "stand 10", "stands",
    "worth 1:20", "best 0:1", "lie 0 12",
)
SIGNS = (" ", "\n", "\t", "-", "+", "0", "1", ",", ":", "|", "_", ".", "x", "/")
DIGITS_20 = "9" * 20
DIGITS_21 = "1" + "0" * 20


def known(text):
    """Whether the text is a command: said again by hand, for small items."""
    words = text.split(" ")
    shapes = {"put": "R", "drop": "N", "mark": "NNM", "shift": "R", "undo": "", "menu": "", "edits": "", "useful": "",
              "stand": "N", "stands": "", "worth": "B", "best": "B", "lie": "NN"}
    if words[0] not in shapes or len(shapes[words[0]]) != len(words) - 1:
        return False
    return all(readable(kind, word) for kind, word in zip(shapes[words[0]], words[1:]))


def readable(kind, text):
    if kind in "NM":
        digits = text[1:] if kind == "M" and text[:1] == "-" and text != "-0" else text
        return (digits != "" and all(sign in "0123456789" for sign in digits) and len(digits) <= 20
                and (digits[0] != "0" or digits == "0"))
    parts = text.split("," if kind == "R" else ":")
    if not 2 <= len(parts) <= 4 or not all(readable("M" if kind == "R" else "N", part) for part in parts):
        return False
    numbers = [int(part) for part in parts]
    if kind == "R":
        return all(abs(number) <= 10 ** 6 for number in numbers)
    return any(numbers) and drawn.prime(numbers) == tuple(numbers)


def ratio(number):
    return f"{number[0]}/{number[1]}"


class Changing(Working):
    def test_edits(self):
        bench, other = Bench(U), Bench(U)
        shell = Shell(bench)
        steps = (("put 9,-9", lambda: other.put((9, -9))), ("drop 1", lambda: other.drop(1)),
                 ("mark 0 1 -5", lambda: other.mark(0, 1, -5)), ("shift -1,2", lambda: other.shift((-1, 2))),
                 ("undo", lambda: other.undo()), ("mark 3 0 1000000", lambda: other.mark(3, 0, 10 ** 6)),
                 ("mark 3 1 -1000000", lambda: other.mark(3, 1, -10 ** 6)), ("drop 0", lambda: other.drop(0)))
        for command, call in steps:
            self.assertEqual(shell(command), f"ok {call()}")
            self.assertEqual(told(bench), told(other))

    def test_errors(self):
        cases = (
            ("put 1,2,3", "BadRow"), ("shift 1,2,3,4", "BadRow"), ("shift 1000000,0", "TooGreat"), ("drop 4", "NoWord"),
            ("drop " + DIGITS_20, "NoWord"), ("mark 4 0 0", "NoWord"), ("mark 0 2 0", "NoAnswer"),
            ("mark 0 " + DIGITS_20 + " 0", "NoAnswer"), ("mark 0 0 1000001", "BadMark"), ("mark 0 0 -1000001", "BadMark"),
            ("mark 0 0 -" + DIGITS_20, "BadMark"), ("mark 9 9 " + DIGITS_20, "NoWord"), ("undo", "NothingToUndo"),
            ("stand 4", "NoWord"), ("stand " + DIGITS_20, "NoWord"), ("lie 0 4", "NoWord"), ("lie 4 0", "NoWord"),
            ("worth 1:2:3", "BadBelief"), ("best 1:0:0:0", "BadBelief"), ("best " + "1" * 40 + ":1:0", "BadBelief"),
        )
        bench = Bench(U)
        shell = Shell(bench)
        for command, name in cases:
            self.assertEqual(shell(command), "error " + name, command)
        self.assertEqual(told(bench), told(Bench(U)))
        alone = Shell(Bench(((0, 0),)))
        self.assertEqual([alone("drop 0"), alone("drop 1")], ["error LastWord", "error NoWord"])
        full = Shell(Bench(((0, 0),) * 8))
        self.assertEqual([full("put 0,0"), full("put 0,0,0"), full("drop 7")], ["error TooMany", "error BadRow", "ok 1"])
        self.assertEqual(Shell(FrankBench(F))("put 3,3"), "error NotFrank")

    def test_behind_forty_edits(self):
        bench = forty(Bench(U))
        shell = Shell(bench)
        for command in ("put 1,2", "put 1,2,3", "drop 0", "drop 9", "mark 0 0 0", "mark 9 9 9", "shift 0,0"):
            self.assertEqual(shell(command), "error TooManyEdits")
        self.assertEqual([shell("edits"), shell("undo"), shell("edits"), shell("drop 0")], ["40", "ok 39", "39", "ok 40"])

    def test_works_on_the_very_bench(self):
        for bench in (Bench(F), FrankBench(F)):
            shell, second = Shell(bench), Shell(bench)
            shell("drop 2")
            self.assertEqual(bench.menu_at(), F[:2])
            self.assertEqual(second("menu"), "4,0 | 0,4")
            bench.undo()
            self.assertEqual(shell("edits"), "0")
            self.assertEqual(Shell(bench.copy())("drop 0"), "ok 1")
            self.assertEqual(shell("menu"), "4,0 | 0,4 | 3,3")

    def test_while_attempt_runs(self):
        for bench in (Bench(F), FrankBench(F)):
            shell = Shell(bench)
            seen = []

            def look(held):
                seen.append([shell(command) for command in BUSY_COMMANDS])
                seen.append([shell(command) for command in ("menu", "edits", "stands", "useful", "worth 1:1", "drop 00")])

            self.assertEqual(bench.attempt((("drop", 0), ("shift", (1, 1))), on_step=look), 2)
            self.assertEqual(seen, [
                ["error Busy"] * len(BUSY_COMMANDS), ["0,4 | 3,3", "1", "alone alone", "0,4 | 3,3", "3/1", UNKNOWN],
                ["error Busy"] * len(BUSY_COMMANDS), ["1,5 | 4,4", "2", "alone alone", "1,5 | 4,4", "4/1", UNKNOWN],
            ])
            self.assertEqual(shell("undo"), "ok 1")


class Asking(Working):
    def test_answers_are_those_of_the_functions(self):
        kinds = set()
        for menu in drawn.SPECIAL_MENUS + tuple(drawn.menus(51, 72)):
            shell = Shell(Bench(menu))
            words = range(len(menu))
            stands = [stand(menu, word)[0] for word in words]
            self.assertEqual(shell("menu"), menu_text(menu))
            self.assertEqual(shell("edits"), "0")
            self.assertEqual(shell("useful"), menu_text(useful(menu)))
            self.assertEqual(shell("stands"), " ".join(stands))
            self.assertEqual([shell(f"stand {word}") for word in words], stands)
            for belief in drawn.grid(len(menu[0]), 2):
                text = belief_text(belief)
                self.assertEqual(shell("worth " + text), ratio(worth(menu, belief)))
                self.assertEqual(shell("best " + text), " ".join(str(word) for word in best(menu, belief)))
            for word in words:
                for said in words:
                    found = lie(menu, word, said)
                    text = "none" if found is None else f"{ratio(found[0][0])} {ratio(found[1][0])}"
                    self.assertEqual(shell(f"lie {word} {said}"), text)
                    kinds.add(found is None)
        self.assertEqual(kinds, {True, False})

    def test_fractions_have_a_bottom(self):
        shell = Shell(Bench(((-3, 0), (-4, 2))))
        self.assertEqual([shell("worth 1:0"), shell("worth 1:1"), shell("worth 5:1"), shell("lie 0 1"), shell("lie 0 0")],
                         ["-3/1", "-1/1", "-5/2", "0/1 1/1", "0/1 0/1"])

    def test_beliefs_with_many_digits(self):
        shell = Shell(Bench(U))
        most = 10 ** 40 - 1
        belief = (most, most - 1)
        top = max(averages(U, belief))
        self.assertEqual(shell("worth " + belief_text(belief)), f"{top.numerator}/{top.denominator}")
        self.assertEqual(shell("best " + belief_text(belief)), "2")
        self.assertEqual(shell("best 1" + "0" * 40 + ":1"), UNKNOWN)

    def test_the_present_menu_is_asked(self):
        bench = Bench(U)
        shell = Shell(bench)
        self.assertEqual([shell("edits"), shell("drop 3"), shell("edits"), shell("stands"), shell("stand 3")],
                         ["0", "ok 1", "1", "alone alone alone", "error NoWord"])

    def test_all_answers_are_strings(self):
        shell = Shell(Bench(U))
        for command in COMMANDS + ("", "undo", "nothing"):
            self.assertIs(type(shell(command)), str)


class Texts(Working):
    def test_signs_put_in_left_out_or_put_otherwise(self):
        said = []
        for command in COMMANDS:
            for place in range(len(command) + 1):
                texts = {command[:place] + command[place + 1:]}
                for sign in SIGNS:
                    texts |= {command[:place] + sign + command[place:], command[:place] + sign + command[place + 1:]}
                for text in texts:
                    answer = Shell(Bench(U))(text)
                    self.assertEqual(answer != UNKNOWN, known(text), text)
                    said.append(answer == UNKNOWN)
        self.assertGreater(min(said.count(True), said.count(False)), 50)

    def test_what_is_no_command(self):
        bench = Bench(U)
        shell = Shell(bench)
        for text in (
            "", " ", "\n", "put", "put ", "put  1,2", " put 1,2", "put 1,2 ", "put 1,2\n", "\nput 1,2", "put\n1,2",
            "put\t1,2", "put 1, 2", "put 1 ,2", "put 1", "put 1,2 3,4", "put 1,2 | 3,4", "put (1, 2)", "put 1,02",
            "put +1,2", "put -0,2", "put 1000001,0", "put 1,2,3,4,5", "Put 1,2", "PUT 1,2", "drop", "drop 1 2", "drop -1",
            "drop +1", "drop 01", "drop 00", "drop -0", "drop 1.0", "drop 1_0", "drop 0x1", "drop one", "drop " + DIGITS_21,
            "drop 0" + DIGITS_20, "mark 0 0", "mark 0 0 0 0", "mark 0 0 -0", "mark 0 0 +1", "mark 0 0 01", "mark 0 0 -01",
            "mark 0 0 --1", "mark 0 0 -", "mark -1 0 0", "mark 0 -1 0", "mark 0 00 0", "mark 0 0 " + DIGITS_21,
            "mark 0 0 -" + DIGITS_21, "mark " + DIGITS_21 + " 0 0", "mark 0  0 0", "mark 0 0 0\n", "shift", "shift 1:2",
            "undo 1", "undo ", " undo", "undo\n", "menu 0", "menus", "men", "edits 1", "edit", "useful 0", "stand",
            "stand 0 0", "stand -1", "stands 0", "worth", "worth 2:2", "worth 0:0", "worth 1", "worth 1:2:3:4:5",
            "worth 1,2", "worth -1:2", "worth 1:02", "worth 1/2", "worth 1:2 ", "best 1:2\n", "best 4:2", "lie 0",
            "lie 0 0 0", "lie 0 -0", "lie 0 01", "lie 0,1", "lie 0\n1", "attempt", "copy", "attempt ()", "put_row 1,2",
            "unknown command", "ok 1", "menu_at", "owns", "x" * 10000, "9" * 10000, "drop " + "9" * 9995,
            "put " + "9" * 5000 + ",1", "worth 1:" + "9" * 9000, "put 1," + "0" * 9000, " " * 10000, "\n" * 10000,
            "mark " * 2000, "drop \u0661", "drop \u00b2", "put \uff11,2",
        ):
            self.assertEqual(shell(text), UNKNOWN, text)
        self.assertEqual(told(bench), told(Bench(U)))

    def test_values_that_are_no_strings(self):
        bench = Bench(U)
        shell = Shell(bench)
        for value in ODD_VALUES + (["menu"], ("menu",), {"menu": 1}, ("put", (1, 2)), ("drop", 0), b"menu", 0, 1, True,
                                   ["drop 0"], 10 ** 5000):
            self.assertEqual(shell(value), UNKNOWN)
        self.assertEqual(told(bench), told(Bench(U)))

    def test_numbers_of_twenty_digits(self):
        shell = Shell(Bench(U))
        for number in (DIGITS_20, "1" + "0" * 19):
            self.assertEqual([shell("drop " + number), shell("mark 0 0 " + number), shell("mark 0 0 -" + number)],
                             ["error NoWord", "error BadMark", "error BadMark"])
            self.assertEqual([shell(f"lie {number} 0"), shell(f"lie 0 {number}"), shell(f"mark 0 {number} 0")],
                             ["error NoWord", "error NoWord", "error NoAnswer"])

    def test_each_row_and_belief_that_can_be_read(self):
        rng = random.Random(8)
        for menu in drawn.menus(52, 24):
            shell = Shell(Bench(menu[:7]))
            row = drawn.row(rng, len(menu[0]), 10 ** 6)
            self.assertEqual(shell("put " + row_text(row)), "ok 1")
            belief = drawn.belief(rng, len(menu[0]), 10 ** 39)
            self.assertEqual(shell("worth " + belief_text(belief)), ratio(worth(menu[:7] + (row,), belief)))


class Kinds(Working):
    def test_a_shell_is_no_error_and_raises_none(self):
        for bench in (Bench(U), FrankBench(F), forty(Bench(U))):
            shell = Shell(bench)
            for command in COMMANDS:
                try:
                    shell(command)
                except FrankError as error:
                    self.fail(repr(error))


if __name__ == "__main__":
    unittest.main()
