"""Points [25] and [26]: the console, its commands, and the texts of its answers."""

import inspect
import random
import unittest

import support
import worlds
from waitnumbers.alike import alike, is_quiet
from waitnumbers.calls import answers, read_calls, show_answer, show_call
from waitnumbers.console import Console
from waitnumbers.errors import BadCommand, BadLimit, NoProcess, NoRegistration, NotASet, NotOpen
from waitnumbers.experiments import parting
from waitnumbers.plans import ending
from waitnumbers.reaching import closings, is_reached, is_sealed
from waitnumbers.system import System

QUESTIONS = {
    "reached": is_reached, "sealed": is_sealed, "quiet": is_quiet, "closings": closings,
}


def console_of(*commands, **limits):
    console = Console(**limits)
    for command in commands:
        console.say(command)
    return console


class Talks(support.Case):
    def talk(self, console, lines):
        """Each line is a command and what is said to it, with ' -> ' between."""
        for line in lines.strip().split("\n"):
            command, wanted = line.strip().split(" -> ")
            self.exactly((command, console.say(command)), (command, wanted))

    def bad(self, console, command):
        """No command; nothing is changed by it."""
        before = self.shown(console)
        self.refused(BadCommand, {"command": command}, console.say, command)
        self.assertEqual(self.shown(console), before)

    def shown(self, console):
        told = [console.say("alike"), console.say("part")]
        for side in ("left", "right"):
            for process in range(6):
                told.append(console.say(f"{side} numbers {process}"))
                for number in range(8):
                    told.append(console.say(f"{side} units {process} {number}"))
                    try:
                        told.append(console.say(f"row {side} {process} {number}"))
                    except (NoProcess, NotOpen, NotASet) as error:
                        told.append(repr(error))
        return told


class Calls(Talks):
    def test_one_side(self):
        self.talk(Console(), """
            left new_set 0 -> 0
            left new_source 0 -> 1
            left numbers 0 -> 0:set 1:source
            right numbers 0 -> none
            right new_source 0 -> 0
            right numbers 0 -> 0:source
            left add 0 0 1 7 level -> ok
            left wait 0 0 1 -> none
            left arrive 0 1 3 -> ok
            left wait 0 0 1 -> 7:3:no
            left finish 0 1 -> ok
            left wait 0 0 5 -> 7:3:yes
            left units 0 1 -> 3:yes
            left read 0 1 2 -> 2
            left read 0 1 - -> 1
            left same 0 0 0 0 -> yes
            left same 0 0 0 1 -> no
            left copy 0 1 - -> 2
            left copy 0 1 5 -> 5
            left change 0 0 1 once -> ok
            left remove 0 0 1 -> ok
            left fork 0 -> 1
            left close 1 1 -> ok
            left end 1 -> ok
            right wait 0 0 1 -> NotASet
        """)

    def test_errors_of_calls_are_answers(self):
        self.talk(console_of("left new_set 0", "left new_source 0", processes=2, numbers=3), """
            left new_source 1 -> NoProcess
            left close 0 2 -> NotOpen
            left copy 0 0 3 -> NoNumber
            left units 0 0 -> NotASource
            left wait 0 1 1 -> NotASet
            left arrive 0 1 0 -> BadCount
            left arrive 0 1 1000001 -> BadCount
            left add 0 0 1 1000000 edge -> BadLabel
            left remove 0 0 1 -> NotRegistered
            left add 0 0 1 999999 edge -> ok
            left add 0 0 1 3 edge -> Registered
            left new_source 0 -> 2
            left add 0 0 2 999999 edge -> Taken
            left new_source 0 -> Full
            left finish 0 1 -> ok
            left finish 0 1 -> Finished
            left fork 0 -> 1
            left fork 0 -> NoRoom
            left new_source 999999999 -> NoProcess
        """)

    def test_both_sides(self):
        self.talk(Console(), """
            both new_set 0 -> 0 | 0
            left new_source 0 -> 1
            both new_source 0 -> 2 | 1
            both numbers 0 -> 0:set 1:source 2:source | 0:set 1:source
            both close 0 2 -> ok | NotOpen
            both numbers 1 -> NoProcess | NoProcess
            both wait 0 0 1 -> none | none
            both same 0 0 0 0 -> yes | yes
            both units 0 1 -> 0:no | 0:no
            both arrive 0 1 5 -> ok | ok
            left read 0 1 - -> 5
            both read 0 1 - -> 0 | 5
        """)

    def test_several_reports(self):
        self.talk(console_of("both new_set 0", "both new_source 0", "both new_source 0"), """
            left add 0 0 1 0 level -> ok
            left add 0 0 2 12 edge -> ok
            left arrive 0 2 10 -> ok
            left finish 0 1 -> ok
            both wait 0 0 9 -> 12:10:no 0:0:yes | none
            row left 0 0 -> 0
        """)

    def test_every_call_on_every_side(self):
        console = console_of("both new_set 0", "left new_source 0", "right fork 0")
        left, right = System(), System()
        for box, calls in ((left, "new_set 0; new_source 0"), (right, "new_set 0; fork 0")):
            answers(box, support.calls_of(calls))
        for call in support.PLAIN_CALLS * 2:
            text = show_call(call)
            self.exactly(console.say("left " + text), show_answer(left.answer(call)))
            self.exactly(console.say("right " + text), show_answer(right.answer(call)))
            self.exactly(
                console.say("both " + text), show_answer(left.answer(call)) + " | " + show_answer(right.answer(call)),
            )

    def test_drawn_rows(self):
        for seed in range(30):
            grower = worlds.grower(seed, 3, 4)
            console, boxes = Console(processes=3, numbers=4), {}
            for side in ("left", "right"):
                boxes[side] = System(processes=3, numbers=4)
            for step in range(60):
                call, side = grower.call(), random.Random(100 * seed + step).choice(["left", "right", "both"])
                sides = ["left", "right"] if side == "both" else [side]
                wanted = " | ".join(show_answer(boxes[one].answer(call)) for one in sides)
                self.exactly(console.say(f"{side} {show_call(call)}"), wanted)
            self.exactly(console.say("alike"), show_answer(alike(boxes["left"], boxes["right"])))


class Comparing(Talks):
    def test_alike(self):
        self.talk(Console(), """
            alike -> yes
            both new_set 0 -> 0 | 0
            alike -> yes
            left new_source 0 -> 1
            alike -> no
            right new_source 0 -> 1
            alike -> yes
            left end 0 -> ok
            alike -> no
            right end 0 -> ok
            alike -> yes
        """)

    def test_part(self):
        self.talk(Console(), """
            part -> none
            both new_source 0 -> 0 | 0
            part -> none
            left arrive 0 0 1 -> ok
            part -> units 0 0
            both end 0 -> ok | ok
            part -> none
        """)

    def parted(self, console):
        """Say the calls of the row on both sides; the last one is answered in two ways."""
        texts = console.say("part").split("; ")
        self.assertIn(len(texts), range(1, 61))
        said = [console.say("both " + text).split(" | ") for text in texts]
        self.assertTrue(all(one == other for one, other in said[:-1]))
        self.assertNotEqual(*said[-1])
        return texts

    def test_a_parting_row_that_is_said(self):
        both = ["both new_set 0", "both new_source 0", "both copy 0 1 2"]
        for left, right in (
            (["new_source 0"], []), (["fork 0"], []), (["new_set 0"], ["new_source 0"]), (["finish 0 1"], []),
            (["add 0 0 1 7 edge"], []), (["add 0 0 1 7 edge"], ["add 0 0 2 7 edge"]),
            (["add 0 0 1 7 edge"], ["add 0 0 1 7 once"]), (["add 0 0 1 7 level"], ["add 0 0 1 7 edge"]),
            (["add 0 0 1 7 edge", "add 0 0 2 8 edge"], ["add 0 0 2 8 edge", "add 0 0 1 7 edge"]),
            (["add 0 0 1 7 edge", "arrive 0 1 1", "read 0 1 -"], ["add 0 0 1 7 edge"]),
        ):
            for one, other in ((left, right), (right, left)):
                console = console_of(*both, *["left " + text for text in one], *["right " + text for text in other])
                self.exactly(console.say("alike"), "no")
                self.parted(console)

    def test_the_row_is_that_of_parting(self):
        calls = ["new_set 0", "new_source 0", "add 0 0 1 7 edge"]
        console = console_of(*["left " + call for call in calls], *["right " + call for call in calls[:2]])
        row = parting(support.system_of("; ".join(calls)), support.system_of("; ".join(calls[:2])))
        self.exactly(read_calls(console.say("part").replace("; ", "\n")), row)

    def test_looking_changes_nothing(self):
        console = console_of("both new_set 0", "both new_source 0", "left add 0 0 1 7 edge", "right arrive 0 1 2")
        before = self.shown(console)
        self.assertEqual(self.shown(console), before)


class Questions(Talks):
    def console(self):
        """On both sides a registration that can be named, one that cannot, and a sealed one; on the left a quiet one."""
        return console_of(
            "both new_set 0", "both new_source 0", "both add 0 0 1 7 level",
            "both new_source 0", "both copy 0 2 3", "both add 0 0 2 8 edge", "both close 0 2", "both new_source 0",
            "left new_source 0", "left add 0 0 4 9 once", "left finish 0 4", "left wait 0 0 1",
        )

    def test_row(self):
        self.talk(self.console(), """
            row left 0 0 -> none
            left arrive 0 1 1 -> ok
            row left 0 0 -> 7
            row right 0 0 -> none
            left arrive 0 3 1 -> ok
            row left 0 0 -> 7 8
            left copy 0 0 6 -> 6
            row left 0 6 -> 7 8
            left fork 0 -> 1
            row left 1 6 -> 7 8
            left wait 0 0 1 -> 7:1:no
            row left 1 0 -> 8 7
        """)

    def test_row_as_the_function_raises(self):
        console = self.console()
        for command, error, told in (
            ("row left 1 0", NoProcess, {"process": 1}), ("row right 999999999 0", NoProcess, {"process": 999999999}),
            ("row left 0 7", NotOpen, {"number": 7}), ("row left 0 999999999", NotOpen, {"number": 999999999}),
            ("row left 0 1", NotASet, {"number": 1}), ("row right 0 4", NotOpen, {"number": 4}),
        ):
            self.refused(error, told, console.say, command)

    def test_questions(self):
        self.talk(self.console(), """
            reached left 0 0 7 -> yes
            reached left 0 0 8 -> no
            reached right 0 0 7 -> yes
            sealed left 0 0 7 -> no
            sealed right 0 0 8 -> no
            quiet left 0 0 7 -> no
            quiet left 0 0 8 -> no
            quiet left 0 0 9 -> yes
            closings left 0 0 7 -> 0:1
            closings left 0 0 8 -> 0:3
            ending left 0 0 7 -> remove 0 0 1
            ending left 0 0 8 -> fork 0; copy 1 3 2; remove 1 0 2; end 1
            ending right 0 0 7 -> remove 0 0 1
            right fork 0 -> 1
            closings right 0 0 7 -> 0:1 1:1
            right close 0 0 -> ok
            right close 1 1 -> ok
            sealed right 1 0 7 -> yes
            reached right 1 0 7 -> no
            closings right 1 0 7 -> 0:1
            ending right 1 0 7 -> none
        """)

    def test_a_set_is_named_by_its_least_number_alone(self):
        console = self.console()
        console.say("left copy 0 0 7"), console.say("left fork 0")
        self.exactly(console.say("row left 1 7"), console.say("row left 0 0"))
        for word in (*QUESTIONS, "ending"):
            self.assertNotEqual(console.say(f"{word} left 0 0 7"), "")
            for place in ((0, 7), (1, 0), (1, 7), (0, 1), (0, 5), (2, 0), (999999999, 0), (0, 999999999)):
                self.refused(
                    NoRegistration, {"set_name": place, "label": 7}, console.say, f"{word} left {place[0]} {place[1]} 7",
                )
            for label in (0, 1, 6, 999999, 1000000, 999999999):
                self.refused(
                    NoRegistration, {"set_name": (0, 0), "label": label}, console.say, f"{word} left 0 0 {label}",
                )
            self.refused(NoRegistration, {"set_name": (0, 0), "label": 9}, console.say, f"{word} right 0 0 9")

    def test_each_side_by_itself(self):
        console = console_of("left new_set 0", "left new_source 0", "left add 0 0 1 5 edge")
        for word in (*QUESTIONS, "ending"):
            self.assertIsInstance(console.say(f"{word} left 0 0 5"), str)
            self.refused(NoRegistration, {"set_name": (0, 0), "label": 5}, console.say, f"{word} right 0 0 5")

    def test_drawn_systems(self):
        asked = 0
        for seed in range(60):
            grower = worlds.grower(seed, 3, 5)
            calls = grower.grown(support.calls_of("new_set 0; new_source 0; add 0 0 1 7 edge"), 25)
            box = System.played(calls, processes=3, numbers=5)
            side = ["left", "right"][seed % 2]
            console = console_of(*[f"{side} {show_call(call)}" for call in calls], processes=3, numbers=5)
            for set_name, label, *kept in box.registrations():
                asked += 1
                place = f"{side} {set_name[0]} {set_name[1]} {label}"
                for word, question in QUESTIONS.items():
                    self.exactly(console.say(f"{word} {place}"), show_answer(question(box, set_name, label)))
                row = ending(box, set_name, label)
                wanted = "none" if row is None else "; ".join(show_call(call) for call in row)
                self.exactly(console.say(f"ending {place}"), wanted)
        self.assertGreater(asked, 50)


class NoCommands(Talks):
    def setUp(self):
        self.console = console_of("both new_set 0", "both new_source 0", "left add 0 0 1 7 edge")

    def test_any_object(self):
        for junk in support.JUNK:
            self.bad(self.console, junk)
        for junk in (b"alike", ["alike"], ("alike",), ["left", "numbers", 0], ("numbers", 0)):
            self.bad(self.console, junk)

    def test_spaces_and_signs(self):
        right = ["alike", "part", "left numbers 0", "both numbers 0", "row left 0 0", "reached left 0 0 7", "ending left 0 0 7"]
        for command in right:
            self.console.say(command)
            for wrong in (
                " " + command, command + " ", command + "\n", "\n" + command, command + "\t", command.replace(" ", "  ", 1)
                + ("" if " " in command else " "), command.replace(" ", "\t") + ("" if " " in command else "\t"),
                command.upper(), command.capitalize(), command + ";", command + " 0", command + " x", command + "\n" + command,
                command.replace(" ", "\n", 1) + ("" if " " in command else "\n"), command[1:], command + "; " + command,
            ):
                self.bad(self.console, wrong)

    def test_too_few_words(self):
        for command in ("left copy 0 0 -", "right numbers 0", "both wait 0 0 1", "row left 0 0", "quiet left 0 0 7"):
            self.console.say(command if not command.startswith("left copy") else "left numbers 0")
            words = command.split(" ")
            for many in range(len(words)):
                self.bad(self.console, " ".join(words[:many]))
                self.bad(self.console, " ".join([*words[:many], *words[many + 1:]]) if many else words[0] + " ")

    def test_too_many_words(self):
        for command in ("alike left", "alike 0", "part left right", "row left 0 0 7", "sealed left 0 0 7 7", "left fork 0 0",
                        "left left fork 0", "both both fork 0", "left both fork 0", "closings left right 0 0 7"):
            self.bad(self.console, command)

    def test_integers(self):
        for text in ("-1", "+0", "00", "01", "0.0", "1000000000", "0x0", "", "-", "o", "1_0", "\u0661", "\u00b2", "\uff10", "True", "None"):
            for command in (
                f"row left {text} 0", f"row left 0 {text}", f"reached left {text} 0 7", f"sealed left 0 {text} 7",
                f"quiet left 0 0 {text}", f"closings left 0 0 {text}", f"ending left {text} 0 7", f"left fork {text}",
                f"both numbers {text}", f"right wait 0 0 {text}", f"left copy 0 {text} 1",
            ):
                self.bad(self.console, command)

    def test_unknown_names(self):
        for command in (
            "up numbers 0", "Left numbers 0", "left Numbers 0", "left number 0", "both", "left", "right", "row", "reached",
            "row both 0 0", "reached both 0 0 7", "ending both 0 0 7", "row up 0 0", "parting", "name left 0 0", "left alike",
            "left part", "left row_of 0 0", "left twin", "left registrations", "left add 0 0 1 8 Level", "left change 0 0 1 -",
            "both arrive 0 1 -", "left wait 0 0 -", "is_quiet left 0 0 7", "registrations left", "help", "left -", "- numbers 0",
            "row 0 0 left", "reached 0 0 7 left", "quit", "left numbers 0 | 0",
        ):
            self.bad(self.console, command)

    def test_lines_for_what_may_be_left_out(self):
        self.exactly(self.console.say("left read 0 1 -"), "0")
        self.exactly(self.console.say("left copy 0 1 -"), "2")
        self.bad(self.console, "left read 0 1")
        self.bad(self.console, "left copy 0 1")
        self.bad(self.console, "left arrive 0 1")
        self.bad(self.console, "left wait 0 0")
        self.bad(self.console, "left add 0 0 1 8")

    def test_no_command_is_done_in_part(self):
        """Where the text of the call is none, it is done on neither side."""
        before = self.shown(self.console)
        for command in ("both new_source 0 ", "both new_source 0 0", "both new_source 0; new_source 0"):
            self.bad(self.console, command)
        self.assertEqual(self.shown(self.console), before)


class Consoles(Talks):
    def test_limits(self):
        for processes, numbers in ((2, 3), (6, 8), (4, 8), (3, 5)):
            console = Console(processes=processes, numbers=numbers)
            for side in ("left", "right"):
                self.exactly([console.say(f"{side} new_set 0") for each in range(numbers)], [str(n) for n in range(numbers)])
                self.exactly(console.say(f"{side} new_set 0"), "Full")
                self.exactly([console.say(f"{side} fork 0") for each in range(processes)][-1], "NoRoom")
                self.exactly(console.say(f"{side} numbers {processes - 1}").count("set"), numbers)
        self.exactly(Console().say("alike"), "yes")
        console = console_of(*["left fork 0"] * 3, *["left new_set 0"] * 8)
        self.exactly([console.say("left fork 0"), console.say("left new_set 0")], ["NoRoom", "Full"])

    def test_bad_limits(self):
        for junk in support.JUNK + [0, 1, 7, 9, 100]:
            self.refused(BadLimit, {"limit": junk}, lambda: Console(processes=junk))
            self.refused(BadLimit, {"limit": junk}, lambda: Console(processes=junk, numbers=2))
            if junk != 7:
                self.refused(BadLimit, {"limit": junk}, lambda: Console(numbers=junk))
        self.refused(BadLimit, {"limit": 2}, lambda: Console(numbers=2))
        self.refused(BadLimit, {"limit": 8}, lambda: Console(processes=8))

    def test_two_consoles(self):
        one, other = Console(), Console()
        one.say("both new_set 0")
        self.exactly(other.say("both numbers 0"), "none | none")

    def test_the_form(self):
        self.exactly(str(inspect.signature(Console)), "(*, processes=4, numbers=8)")
        self.exactly(str(inspect.signature(Console.say)), "(self, command)")
        self.exactly(Console().say(command="alike"), "yes")
        with self.assertRaises(TypeError):
            Console(4, 8)


if __name__ == "__main__":
    unittest.main()
