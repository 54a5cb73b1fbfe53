"""Points [24] and [25]: the texts of calls, of rows and of answers."""

import unittest

import support
from waitnumbers.calls import read_call, read_calls, show_answer, show_call, show_calls
from waitnumbers.errors import BadText
from waitnumbers.system import System

TEXTS = {
    "new_source 0": ("new_source", 0),
    "new_set 5": ("new_set", 5),
    "copy 0 1 -": ("copy", 0, 1, None),
    "copy 0 1 7": ("copy", 0, 1, 7),
    "close 1 2": ("close", 1, 2),
    "fork 3": ("fork", 3),
    "end 0": ("end", 0),
    "arrive 0 1 1000000": ("arrive", 0, 1, 1000000),
    "finish 0 1": ("finish", 0, 1),
    "read 0 1 -": ("read", 0, 1, None),
    "read 0 1 20": ("read", 0, 1, 20),
    "add 0 1 2 999999 level": ("add", 0, 1, 2, 999999, "level"),
    "add 0 1 2 0 edge": ("add", 0, 1, 2, 0, "edge"),
    "change 0 1 2 once": ("change", 0, 1, 2, "once"),
    "remove 0 1 2": ("remove", 0, 1, 2),
    "wait 0 1 10": ("wait", 0, 1, 10),
    "numbers 999999999": ("numbers", 999999999),
    "same 0 1 2 3": ("same", 0, 1, 2, 3),
    "units 0 0": ("units", 0, 0),
}

NO_TEXTS = [
    "", " ", "-", "fork", "fork ", " fork 0", "fork 0 ", "fork  0", "fork 0 0", "fork\t0", "fork 00",
    "fork 01", "fork +1", "fork -1", "fork - 1", "fork 1_0", "fork 1.0", "fork -", "fork None", "fork x",
    "fork 1000000000", "fork 0999999999", "fork 99999999999999999999", "fork \u0663", "fork \u00b2",
    "FORK 0", "Fork 0", "forks 0", "name 0 0", "answer 0", "row_of 0 0", "fork 0\r", "fork 0\n", "\nfork 0",
    "fork 0\nfork 0", "fork,0", "fork(0)", "('fork', 0)", "copy 0 1", "copy 0 - 1", "copy - 0 1",
    "copy 0 1 level", "copy 0 1 --", "read 0 1", "read 0 - -", "arrive 0 1", "arrive 0 1 -",
    "wait 0 1 -", "wait 0 1", "add 0 1 2 7", "add 0 1 2 7 -", "add 0 1 2 - level", "add 0 1 2 7 Level",
    "add 0 1 2 level 7", "add 0 1 2 7 levels", "add 0 1 2 7 0", "add 0 1 2 7 level ", "change 0 1 2",
    "change 0 1 2 0", "same 0 1 2 -", "units 0 0 0", "remove 0 1 -", "level", "0",
]

NO_STRINGS = [junk for junk in support.JUNK if not isinstance(junk, str)] + [b"fork 0", ["fork 0"], ("fork", 0)]


class Calls(support.Case):
    def test_there_and_back(self):
        for text, call in TEXTS.items():
            self.exactly(show_call(call), text)
            self.exactly(read_call(text), call)

    def test_all_names_have_texts(self):
        self.assertEqual(sorted({call[0] for call in TEXTS.values()}), sorted(support.NAMES))

    def test_no_texts(self):
        for text in NO_TEXTS + [junk for junk in support.JUNK if isinstance(junk, str)]:
            self.refused(BadText, {"line": 0}, read_call, text)

    def test_no_strings(self):
        for junk in NO_STRINGS:
            self.refused(BadText, {"line": -1}, read_call, junk)
            self.refused(BadText, {"line": -1}, read_calls, junk)


class Rows(support.Case):
    def test_there_and_back(self):
        calls = list(TEXTS.values())
        text = "\n".join(TEXTS)
        self.exactly(show_calls(calls), text)
        self.exactly(show_calls(tuple(calls)), text)
        self.exactly(read_calls(text), calls)

    def test_no_calls_and_one(self):
        self.exactly(show_calls([]), "")
        self.exactly(show_calls(()), "")
        self.exactly(read_calls(""), [])
        self.exactly(show_calls([("fork", 0)]), "fork 0")
        self.exactly(read_calls("fork 0"), [("fork", 0)])

    def test_the_first_line_that_is_none(self):
        for bad in NO_TEXTS:
            if "\n" in bad:
                continue
            if bad != "":
                self.refused(BadText, {"line": 0}, read_calls, bad)
            self.refused(BadText, {"line": 0}, read_calls, bad + "\nfork 0")
            self.refused(BadText, {"line": 1}, read_calls, "fork 0\n" + bad)
            self.refused(BadText, {"line": 2}, read_calls, "fork 0\nend 0\n" + bad + "\nend 0\n?")

    def test_line_feeds_stand_between_only(self):
        self.refused(BadText, {"line": 0}, read_calls, "\n")
        self.refused(BadText, {"line": 1}, read_calls, "fork 0\n")
        self.refused(BadText, {"line": 0}, read_calls, "\nfork 0")
        self.refused(BadText, {"line": 1}, read_calls, "fork 0\n\nfork 0")
        self.refused(BadText, {"line": 0}, read_calls, "fork 0\r\nfork 0")
        self.refused(BadText, {"line": 0}, read_calls, "fork 0\x0bfork 0")

    def test_a_long_row(self):
        calls = [("add", 0, 1, 2, 7, "level")] * 500
        self.exactly(read_calls(show_calls(calls)), calls)


class AnswerTexts(support.Case):
    def test_answers(self):
        for answer, text in [
            (None, "ok"), (True, "yes"), (False, "no"), (0, "0"), (1, "1"), (1000000, "1000000"),
            ("NoProcess", "NoProcess"), ([], "none"), ((0, False), "0:no"), ((1, True), "1:yes"),
            ([(3, "source")], "3:source"), ([(7, 2, False)], "7:2:no"),
            ([(0, "set"), (1, "source")], "0:set 1:source"), ([(7, 1, True), (8, 0, False)], "7:1:yes 8:0:no"),
            ((0, 3), "0:3"), ([(0, 3), (1, 3)], "0:3 1:3"), ([5, 0, 1], "5 0 1"),
        ]:
            self.exactly(show_answer(answer), text)

    def test_answers_of_calls(self):
        system = System()
        for call, text in [
            (("new_set", 0), "0"), (("numbers", 0), "0:set"), (("new_source", 0), "1"),
            (("add", 0, 0, 1, 7, "level"), "ok"), (("wait", 0, 0, 1), "none"), (("arrive", 0, 1, 2), "ok"),
            (("wait", 0, 0, 1), "7:2:no"), (("same", 0, 0, 0, 0), "yes"), (("same", 0, 0, 0, 1), "no"),
            (("numbers", 0), "0:set 1:source"), (("units", 0, 1), "2:no"), (("units", 0, 0), "NotASource"),
            (("close", 0, 0), "ok"), (("close", 0, 1), "ok"), (("numbers", 0), "none"),
        ]:
            self.exactly(show_answer(system.answer(call)), text)


if __name__ == "__main__":
    unittest.main()
