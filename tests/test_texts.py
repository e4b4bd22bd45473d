"""Points 57 to 62: the texts of rules, scenes, logs and outcomes."""

import random
import unittest

from retryslots import texts
from retryslots.errors import InvalidLog, InvalidRule, InvalidScene, InvalidText, RetryError
from retryslots.rules import Rule
from retryslots.runs import Run
from retryslots.scenes import Scene
from retryslots.texts import (
    format_log, format_outcomes, format_rule, format_scene, parse_log, parse_rule, parse_scene,
)
from tests.changes import FAR
from tests.samples import check_fields, document_scene, endless_list, no_integers, no_rules, no_runs, no_scenes
from tests.slot_by_slot import small_scenes
from tests.stepping import small_rules

FUNCTIONS = ["format_rule", "parse_rule", "format_scene", "parse_scene", "format_log", "parse_log", "format_outcomes"]
LONGEST = 10 ** 30 - 1
# Words that are neither a number nor anything else.
NO_WORDS = ["", "x", "-", "--1", "+1", "01", "-01", "00", "-0", "1.", "1.0", "1e5", "1_000", "0x1", "1-", "\t", "1\t",
            "\t1", "9" * 31, "-" + "9" * 31, "0" * 30, "End", "END", "ends", "time", "Times", "end,", "(1)", "rule",
            "starts", "length", "1..2", "1:2"]


def sample_texts():
    """Return texts of rules, scenes and logs, each with the functions that parse and format it."""
    rules = ["end", "1 2 times 2", "4 1 2 repeat 2", "1000000000000 repeat 1", "10 20 30 end"]
    scenes = ["rule 5 3 end\nstarts 0 -5\noutages -10..0\nlength 3", "rule end\nstarts 1\nlength 1",
              "rule 1 times 2\nstarts 0 10 -20\noutages 0..4 6..9\nlength 10"]
    logs = ["", "0:2 5:1", "-10:20 -1:1 30:0", "100:-5"]
    return ([(text, parse_rule, format_rule) for text in rules] + [(text, parse_scene, format_scene) for text in scenes]
            + [(text, parse_log, format_log) for text in logs])


class Interface(unittest.TestCase):
    def test_functions_are_defined_in_the_file(self):
        for name in FUNCTIONS:
            self.assertEqual(getattr(texts, name).__module__, "retryslots.texts")

    def test_arguments_by_name(self):
        self.assertEqual(format_rule(rule=Rule([], ("end",))), "end")
        self.assertEqual(parse_rule(text="end"), Rule([], ("end",)))
        self.assertEqual(parse_scene(text=format_scene(scene=document_scene())), document_scene())
        self.assertEqual(parse_log(text=format_log(log=[(0, 2)])), [(0, 2)])
        self.assertEqual(format_outcomes(run=Run(document_scene())), "served 2 8\nserved 2 3")


class Rules(unittest.TestCase):
    def check_refused(self, text, word, line=0):
        check_fields(self, InvalidText(line, word), parse_rule, text)

    def test_document(self):
        self.assertEqual(format_rule(Rule([1, 2], ("times", 2))), "1 2 times 2")
        self.assertEqual(parse_rule("end"), Rule([], ("end",)))
        self.check_refused("1 02 end", 1)
        self.check_refused("1 times", 2)

    def test_small_rules(self):
        for gaps, tail in small_rules():
            text = " ".join(str(word) for word in [*gaps, *tail])
            self.assertEqual(format_rule(Rule(gaps, tail)), text)
            self.assertEqual(parse_rule(text), Rule(gaps, tail))

    def test_greatest_rules(self):
        gaps = [10 ** 12 - at for at in range(20)]
        for tail in (("end",), ("times", 1000), ("repeat", 20)):
            self.assertEqual(parse_rule(format_rule(Rule(gaps, tail))), Rule(gaps, tail))

    def test_words_that_may_not_stand(self):
        for word in NO_WORDS:
            self.check_refused(word, 0)
            self.check_refused(f"1 {word} end", 1)
            self.check_refused(f"{word} {word} end", 0)
            self.check_refused(f"1 2 times {word}", 3)
            self.check_refused(f"1 2 repeat {word} {word}", 3)
        for word in ("end", "times", "repeat"):
            self.check_refused(f"1 times {word}", 2)

    def test_words_too_many_and_too_few(self):
        for text, word in (("end end", 1), ("end 1", 1), ("1 end 2", 2), ("1 times 2 3", 3), ("1 times 2 end", 3),
                           ("1 repeat 1 repeat 1", 3), ("", 0), ("1", 1), ("1 2 3", 3), ("times", 1), ("1 2 repeat", 3),
                           ("-5", 1)):
            self.check_refused(text, word)

    def test_blanks(self):
        for text, word in ((" ", 0), (" end", 0), ("end ", 1), ("end  ", 1), ("1  end", 1), ("1 end ", 2),
                           ("  1 end", 0), ("1 times  2", 2), ("1 times 2 ", 3), ("\tend", 0), ("1\tend", 0),
                           ("end\t", 0), ("1 \tend", 1)):
            self.check_refused(text, word)

    def test_lines_too_many(self):
        for text in ("end\n", "end\nend", "end\n\n", "1 times 2\n ", "end\nx"):
            self.check_refused(text, 0, 1)
        for text in ("\nend", "\n", "\n\n"):
            self.check_refused(text, 0, 0)
        self.check_refused("1\nend", 1, 0)

    def test_written_as_stated_but_no_rule(self):
        for text in ("0 end", "-5 end", "1 0 times 2", f"{10 ** 12 + 1} end", f"{LONGEST} end", "1 " * 21 + "end",
                     "0 times 1", "-" + "9" * 30 + " repeat 9"):
            check_fields(self, InvalidRule("gaps"), parse_rule, text)
        for text in ("times 2", "1 times 1", "1 times 1001", "1 times -2", "repeat 1", "1 repeat 0", "1 repeat 2",
                     "1 repeat -1", f"1 times {LONGEST}"):
            check_fields(self, InvalidRule("tail"), parse_rule, text)

    def test_no_rules(self):
        for value in no_rules():
            check_fields(self, InvalidScene("rule", -1), format_rule, value)


class Scenes(unittest.TestCase):
    def check_refused(self, text, line, word):
        check_fields(self, InvalidText(line, word), parse_scene, text)

    def test_document(self):
        text = "rule 5 3 end\nstarts 0 -5\noutages -10..0\nlength 3"
        self.assertEqual(format_scene(document_scene()), text)
        self.assertEqual(parse_scene(text), document_scene())
        self.check_refused("rule end\nstarts 1", 2, 0)

    def test_small_scenes(self):
        for parts in small_scenes(400, 121):
            lines = [" ".join(["rule", *[str(word) for word in [*parts.gaps, *parts.tail]]]),
                     " ".join(["starts", *[str(start) for start in parts.starts]])]
            if parts.outages:
                lines.append(" ".join(["outages", *[f"{first}..{after}" for first, after in parts.outages]]))
            lines.append(f"length {parts.length}")
            self.assertEqual(format_scene(parts.scene()), "\n".join(lines))
            self.assertEqual(parse_scene("\n".join(lines)), parts.scene())

    def test_greatest_scenes(self):
        rule = Rule([10 ** 12 - at for at in range(20)], ("times", 1000))
        outages = [(at * FAR, at * FAR + 1) for at in range(-9, 1)]
        scene = Scene(rule, [LONGEST, -LONGEST] * 20, outages=outages, length=LONGEST)
        self.assertEqual(parse_scene(format_scene(scene)), scene)
        self.assertEqual(len(format_scene(scene).split("\n")), 4)
        self.assertEqual(parse_scene(format_scene(Scene(rule, [0], outages=[]))), Scene(rule, [0]))

    def test_first_line(self):
        for line, word in (("", 0), ("end", 0), ("Rule end", 0), ("rules end", 0), ("rule", 1), ("rule 1", 2),
                           ("rule 1 times", 3), ("rule end end", 2), ("rule 1 02 end", 2), (" rule end", 0),
                           ("rule  end", 1), ("rule end ", 2), ("1 end", 0), ("starts 1", 0), ("rule rule end", 1)):
            self.check_refused(line, 0, word)
            self.check_refused(f"{line}\nstarts x\nlength 1", 0, word)

    def test_second_line(self):
        for line, word in (("", 0), ("1 2", 0), ("start 1", 0), ("starts x", 1), ("starts 1 -0", 2), ("starts 1  2", 2),
                           ("starts ", 1), ("starts 1 ", 2), (" starts 1", 0), ("starts 1..2", 1), ("length 1", 0),
                           (f"starts 1 {10 ** 30}", 2)):
            self.check_refused(f"rule end\n{line}\nlength 1", 1, word)
            self.check_refused(f"rule end\n{line}\nlength", 1, word)
            self.check_refused(f"rule 0 end\n{line}", 1, word)
        self.check_refused("rule end", 1, 0)

    def test_line_of_outages(self):
        for line, word in (("outages", 1), ("outages ", 1), ("outages 1", 1), ("outages 1..", 1), ("outages ..1", 1),
                           ("outages 1...2", 1), ("outages 1.2", 1), ("outages 1..2..3", 1), ("outages 1..2 ", 2),
                           ("outages 1..2 x", 2), ("outages 1..2  3..4", 2), ("outages 01..2", 1), ("outages 1..02", 1),
                           ("outages -0..2", 1), ("outages 1..-", 1), (f"outages {10 ** 30}..2", 1),
                           ("outages 1 ..2", 1), ("outages 1..2 3", 2), ("outages 1:2", 1), ("outage 1..2", 0),
                           ("", 0), (" outages 1..2", 0)):
            self.check_refused(f"rule end\nstarts 1\n{line}\nlength 1", 2, word)
            self.check_refused(f"rule end\nstarts 1\n{line}", 2, word)
        self.check_refused("rule end\nstarts 1\noutages 1..2", 3, 0)
        self.check_refused("rule end\nstarts 1\noutages 1..2\noutages 3..4\nlength 1", 3, 0)

    def test_line_of_the_length(self):
        for line, word in (("length", 1), ("length ", 1), ("length x", 1), ("length 1 2", 2), ("length 1 ", 2),
                           ("length  1", 1), ("length 01", 1), ("length +1", 1), ("length -", 1), (" length 1", 0),
                           (f"length {10 ** 30}", 1), ("Length 1", 0), ("1", 0), ("starts 1", 0), ("", 0)):
            self.check_refused(f"rule end\nstarts 1\n{line}", 2, word)
            self.check_refused(f"rule end\nstarts 1\noutages 5..4\n{line}", 3, word)
            self.check_refused(f"rule end\nstarts\noutages 1..2\n{line}\n", 3, word)

    def test_lines_too_many(self):
        for more in ("\n", "\nlength 1", "\n\n", "\n ", "\noutages 1..2", "\nx"):
            self.check_refused("rule end\nstarts 1\nlength 1" + more, 3, 0)
            self.check_refused("rule 0 end\nstarts\noutages 1..2\nlength 0" + more, 4, 0)

    def test_written_as_stated_but_no_scene(self):
        check_fields(self, InvalidRule("gaps"), parse_scene, "rule 0 end\nstarts\nlength 0")
        check_fields(self, InvalidRule("tail"), parse_scene, "rule times 2\nstarts\noutages 2..1\nlength 0")
        check_fields(self, InvalidScene("starts", -1), parse_scene, "rule end\nstarts\noutages 2..1\nlength 0")
        check_fields(self, InvalidScene("starts", -1), parse_scene, "rule end\nstarts" + " 7" * 41 + "\nlength 1")
        check_fields(self, InvalidScene("outages", 0), parse_scene, "rule end\nstarts 1\noutages 2..1\nlength 0")
        check_fields(self, InvalidScene("outages", 1), parse_scene, "rule end\nstarts 1\noutages 1..5 4..6\nlength 1")
        check_fields(self, InvalidScene("outages", -1), parse_scene,
                     "rule end\nstarts 1\noutages" + "".join(f" {at}..{at + 1}" for at in range(11)) + "\nlength 1")
        for length in (0, -1, -LONGEST):
            check_fields(self, InvalidScene("length", -1), parse_scene, f"rule end\nstarts 1\nlength {length}")

    def test_no_scenes(self):
        for value in no_scenes():
            check_fields(self, InvalidScene("scene", -1), format_scene, value)


class Logs(unittest.TestCase):
    def test_document(self):
        self.assertEqual(format_log([(0, 2), (5, 1)]), "0:2 5:1")
        self.assertEqual((parse_log("0:2 5:1"), parse_log("")), ([(0, 2), (5, 1)], []))

    def test_any_integers(self):
        for log, text in (([], ""), ([(5, 1), (0, 2), (5, 0)], "5:1 0:2 5:0"), ([(-1, -2)], "-1:-2"),
                          ([(LONGEST, -LONGEST)], f"{LONGEST}:-{LONGEST}")):
            self.assertEqual(format_log(log), text)
            self.assertEqual(parse_log(text), log)
        log = [(at * FAR, at) for at in range(-9, 10)] * 50
        self.assertEqual(parse_log(format_log(log)), log)

    def test_words_that_may_not_stand(self):
        for word in [*[word for word in NO_WORDS if word != "1:2"], "1", "1:", ":1", ":", "1:2:3", "1::2", "01:2", "1:02",
                     "-0:1", "1:-0", "+1:2", "1;2", "1..2", "1:2\t", "\t1:2", f"1:{10 ** 30}", f"{10 ** 30}:1"]:
            if word:
                check_fields(self, InvalidText(0, 0), parse_log, word)
            check_fields(self, InvalidText(0, 1), parse_log, f"0:2 {word}")
            check_fields(self, InvalidText(0, 2), parse_log, f"0:2 7:1 {word} 5:1 {word}")

    def test_blanks_and_lines(self):
        for text, line, word in ((" ", 0, 0), (" 0:2", 0, 0), ("0:2 ", 0, 1), ("0:2  5:1", 0, 1), ("0 :2", 0, 0),
                                 ("0:2\n", 1, 0), ("\n", 1, 0), ("\n0:2", 1, 0), ("0:2\n5:1\n", 1, 0), ("x\n", 0, 0)):
            check_fields(self, InvalidText(line, word), parse_log, text)

    def test_no_logs(self):
        for wrong in [*no_integers(), 0, (), ((0, 2),), {0: 2}, "0:2"]:
            if not isinstance(wrong, list):
                check_fields(self, InvalidLog(-1), format_log, wrong)
        entries = [*no_integers(), 0, [0, 2], (0,), (0, 2, 3), {0: 2}, "0:2"]
        for wrong in no_integers():
            entries += [(0, wrong), (wrong, 2)]
        for wrong in entries:
            check_fields(self, InvalidLog(0), format_log, [wrong])
            check_fields(self, InvalidLog(2), format_log, [(5, 1), (0, 2), wrong, wrong])
        check_fields(self, InvalidLog(0), format_log, endless_list())
        check_fields(self, InvalidLog(600), format_log, [(0, 1)] * 600 + [None])


class Outcomes(unittest.TestCase):
    def test_document(self):
        self.assertEqual(format_outcomes(Run(document_scene())), "served 2 8\nserved 2 3")

    def test_kinds(self):
        run = Run(Scene(Rule([5, 3], ("end",)), [3, 3, -50]))
        self.assertEqual(format_outcomes(run), "ended\nended\nserved 0 -50")
        run = Run(Scene(Rule([2], ("repeat", 1)), [3, 3, FAR]))
        self.assertEqual(format_outcomes(run), f"never\nnever\nserved 0 {FAR}")

    def test_small_scenes(self):
        for parts in small_scenes(100, 122):
            run = Run(parts.scene())
            lines = format_outcomes(run).split("\n")
            self.assertEqual(lines, [" ".join(str(word) for word in outcome) for outcome in run.outcomes()])

    def test_no_runs(self):
        for value in no_runs():
            check_fields(self, InvalidScene("run", -1), format_outcomes, value)


class AllTexts(unittest.TestCase):
    def test_no_strings(self):
        for call in (parse_rule, parse_scene, parse_log):
            for value in [*no_integers(), 0, 1, b"end", b"", ["end"], ("end",), Rule([], ("end",)), document_scene()]:
                if not isinstance(value, str):
                    check_fields(self, InvalidText(-1, -1), call, value)

    def test_texts_are_formatted_again(self):
        for text, parse, form in sample_texts():
            self.assertEqual(form(parse(text)), text)

    def test_numbers_of_thirty_digits_and_more(self):
        for number in (0, 9, 10, -1, 10 ** 29, LONGEST, -LONGEST):
            self.assertEqual(parse_log(f"{number}:{number}"), [(number, number)])
        for number in (10 ** 30, -10 ** 30, 10 ** 31, 10 ** 100):
            check_fields(self, InvalidText(0, 0), parse_log, f"{number}:1")
            check_fields(self, InvalidText(0, 1), parse_rule, f"1 {number} end")
            check_fields(self, InvalidText(1, 2), parse_scene, f"rule end\nstarts 1 {number}\nlength 1")

    def check_text(self, text, parse, form):
        """Check that a text is refused, or is the text of what it is parsed to; return whether it is refused."""
        try:
            parsed = parse(text)
        except RetryError as error:
            self.assertIn(error.__class__, (InvalidText, InvalidRule, InvalidScene))
            return True
        self.assertEqual(form(parsed), text)
        return False

    def test_texts_with_one_sign_changed(self):
        found = {True: 0, False: 0}
        for text, parse, form in sample_texts():
            for at in range(len(text) + 1):
                for sign in ["", *"0123456789-+.: \t\nabdeglnprstu"]:
                    found[self.check_text(text[:at] + sign + text[at + 1:], parse, form)] += 1
                    found[self.check_text(text[:at] + sign + text[at:], parse, form)] += 1
        self.assertGreater(min(found.values()), 500)

    def test_texts_of_random_words(self):
        chance = random.Random(123)
        words = ["1", "2", "-3", "0", "end", "times", "repeat", "rule", "starts", "outages", "length", "1..2", "3..4", "0:2",
                 "", "01"]
        for _ in range(4000):
            lines = [" ".join(chance.choices(words, k=chance.randint(0, 4))) for _ in range(chance.randint(1, 4))]
            for first in ("", "rule 1 end\nstarts 1 2\n"):
                for parse, form in ((parse_rule, format_rule), (parse_scene, format_scene), (parse_log, format_log)):
                    self.check_text(first + "\n".join(lines), parse, form)

    def test_results_are_new(self):
        first = parse_log("0:2")
        first.clear()
        self.assertEqual(parse_log("0:2"), [(0, 2)])
        scene = parse_scene("rule end\nstarts 1\nlength 1")
        scene.starts().clear()
        self.assertEqual(scene, parse_scene("rule end\nstarts 1\nlength 1"))
        log = [(0, 2)]
        format_log(log)
        self.assertEqual(log, [(0, 2)])


if __name__ == "__main__":
    unittest.main()
