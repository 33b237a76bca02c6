"""hearpurse.console, [11.1]: each line and its answer, beside a world that does the same."""

import re
import unittest

from hearpurse.audit import audit, books_of
from hearpurse.console import Console, answers
from hearpurse.entitlements import overdrawn, totals
from hearpurse.errors import PurseError, UnknownAccount
from hearpurse.facts import fact_text
from hearpurse.forests import Forest
from hearpurse.missing import missing
from hearpurse.worlds import World
from tests.drawn import view_of
from tests.samples import NO_STRINGS, Mixed

START = ["account a", "account b in a", "account c in a", "join a 3", "join b 4", "deposit 0 a 5", "ask a 2"]

# A line of each form, with right parts.
LINES = [
    "account d", "account d in a", "join a 3", "ask a 1", "deposit 0 a 5", "release 1 1", "send 0 1", "arrive 0 1 0",
    "lose 0 1 0", "copy 0 1 0", "withdraw 3", "spent", "ideal", "total a", "missing 1", "knows 0", "settle", "over", "audit",
]

# What stands in the place of a part, and is none.
NO_NUMBERS = ["00", "01", "007", "-1", "+1", "1.0", "0x1", "1e3", "a", "A", "", "1000000000000", "9999999999999",
              "0000000000001", "1_0", "-0", "1,0", "one", "None", "True"]
NO_NAMES = ["", "A", "aB", "a1", "1", "abcdefghi", "a-b", "a_", "_", "a.", "in2", "Total"]


def console_of(lines):
    console = Console()
    for line in lines:
        console.say(line)
    return console


class ConsoleCase(unittest.TestCase):
    def judge(self, text, expected):
        lines = text.split("\n") if isinstance(text, str) else text
        self.assertEqual([console.say(line) for console in [Console()] for line in lines], expected)


class TestExamples(ConsoleCase):
    def test_they_are_defined_in_their_file(self):
        self.assertEqual([Console.__module__, answers.__module__], ["hearpurse.console"] * 2)
        self.assertIn("say", vars(Console))

    def test_the_example_of_the_document(self):
        self.assertEqual(
            answers("account a\njoin a 3\ndeposit 1 a 2\nspent\nask a 1\nsettle\ntotal a\n"),
            ["ok", "1", "ok", "2", "refused toomuch", "2", "2"],
        )

    def test_by_name(self):
        self.assertEqual([Console().say(line="account a"), answers(text="account a\n")], ["ok", ["ok"]])


class TestAccounts(ConsoleCase):
    def test_good_ones(self):
        self.judge("account a\naccount bb in a\naccount in in bb\naccount abcdefgh\naccount account in abcdefgh\ntotal in",
                   ["ok", "ok", "ok", "ok", "ok", "0"])

    def test_refused_ones_have_no_effect(self):
        self.judge("account a in b\naccount a in a\naccount a\naccount a\naccount a in a\naccount c in b\naccount b in a",
                   ["refused invalidforest"] * 2 + ["ok"] + ["refused invalidforest"] * 3 + ["ok"])
        self.judge("account b in a\naccount a\naccount b\njoin b 1\nsettle", ["refused invalidforest", "ok", "ok", "1", "1"])

    def test_a_ninth_account(self):
        lines = ["account " + name for name in "abcdefgh"]
        self.judge(lines + ["account i", "account i in a", "account a", "total h", "total i"],
                   ["ok"] * 8 + ["refused invalidforest"] * 3 + ["0", "refused unknownaccount"])

    def test_once_there_is_a_world(self):
        for line in ("spent", "join x 1", "send 0 1", "over"):
            console = console_of(["account a", line])
            for account in ("account b", "account a", "account b in a", "account b in x", "account i in i"):
                self.assertEqual(console.say(account), "what")
            self.assertEqual(console.say("total b"), "refused unknownaccount")

    def test_what_makes_no_world(self):
        for line in ("", "what", "spent ", "join a", "total A", "accounts a", None, "account B", "account a b", "tell 0 1"):
            console = Console()
            self.assertEqual([console.say("account a"), console.say(line), console.say("account b"), console.say("total b")],
                             ["ok", "what", "ok", "0"])

    def test_no_account_yet(self):
        for line in LINES[2:]:
            self.judge([line, line, "account a", "account b in a", "total b"],
                       ["refused invalidforest"] * 2 + ["ok", "ok", "0"])


class TestFirstLine(ConsoleCase):
    def test_it_makes_the_world_also_if_it_raises_an_error(self):
        for line, expected in [
            ("join a 3", "1"), ("join a 0", "refused invalidbalances"), ("join x 3", "refused unknownaccount"),
            ("ask a 1", "refused toomuch"), ("deposit 0 a 2", "ok"), ("deposit 1 a 2", "refused unknownnode"),
            ("release 1 1", "refused unknownnode"), ("send 0 0", "refused unknownnode"), ("lose 0 1 0", "refused unknownnode"),
            ("withdraw 1", "refused unknownrequest"), ("spent", "-"), ("ideal", "-"), ("total a", "0"),
            ("total x", "refused unknownaccount"), ("missing 1", "refused unknownnode"), ("knows 0", "0"),
            ("knows 1", "refused unknownnode"), ("settle", "1"), ("over", "none"), ("audit", "ok"),
        ]:
            with self.subTest(line=line):
                self.judge(["account a", line, "account b", "join a 5"],
                           ["ok", expected, "what", "2" if line == "join a 3" else "1"])


class TestLines(ConsoleCase):
    def say(self, before, line):
        return console_of(START + before).say(line)

    def judge_line(self, before, line, expected):
        with self.subTest(line=line):
            self.assertEqual(self.say(before, line), expected)

    def test_the_start(self):
        self.judge(START, ["ok", "ok", "ok", "1", "2", "ok", "3"])

    def test_join_and_ask(self):
        self.judge_line([], "join c 1000000000", "4")
        self.judge_line([], "join c 1000000001", "refused invalidbalances")
        self.judge_line([], "join c 0", "refused invalidbalances")
        self.judge_line([], "join d 1", "refused unknownaccount")
        self.judge_line([], "ask a 3", "4")
        self.judge_line([], "ask a 4", "refused toomuch")
        self.judge_line([], "ask b 1", "refused toomuch")
        self.judge_line(["join a 1"] * 17, "join a 1", "refused toomany")
        self.judge_line(["join a 1"] * 17, "ask a 1", "refused toomany")
        self.judge_line(["join a 1"] * 16, "join a 1", "20")

    def test_deposit_and_release(self):
        self.judge_line([], "deposit 1 b 999999999999", "refused invalidbalances")
        self.judge_line([], "deposit 2 b 7", "ok")
        self.judge_line([], "deposit 3 b 7", "refused unknownnode")
        self.judge_line([], "deposit 999999999999 b 7", "refused unknownnode")
        self.judge_line(["deposit 2 b 7"], "spent", "0 0")
        self.judge_line(["deposit 1 b 7"], "spent", "3 0")
        self.judge_line(["deposit 0 a 1"] * 59, "deposit 0 a 1", "refused toomany")
        self.judge_line([], "release 1 3", "ok")
        self.judge_line([], "release 1 4", "refused toomuch")
        self.judge_line([], "release 0 1", "refused unknownnode")
        self.judge_line(["release 1 3"], "ideal", "0 0")

    def test_messages(self):
        self.judge_line([], "send 0 1", "ok")
        self.judge_line([], "send 0 0", "refused unknownnode")
        self.judge_line([], "send 3 0", "refused unknownnode")
        self.judge_line(["send 0 1"] * 6, "send 0 1", "ok")
        self.judge_line(["send 0 1"], "arrive 0 1 0", "consent 3, spend 3")
        self.judge_line(["send 0 2"], "arrive 0 2 0", "consent 3")
        self.judge_line(["send 0 1", "arrive 0 1 0", "send 0 1"], "arrive 0 1 0", "-")
        self.judge_line(["send 1 0"], "arrive 1 0 0", "0")
        self.judge_line(["deposit 1 c 1", "deposit 1 c 2", "send 1 0"], "arrive 1 0 0", "2")
        self.judge_line(["deposit 1 a 3", "ask a 3", "send 0 1"], "arrive 0 1 0", "consent 3, consent 4")
        self.judge_line(["send 0 1"], "arrive 0 1 1", "refused invalidmessage")
        self.judge_line([], "arrive 0 1 0", "refused invalidmessage")
        self.judge_line(["send 0 1"], "lose 0 1 0", "ok")
        self.judge_line(["send 0 1", "lose 0 1 0"], "lose 0 1 0", "refused invalidmessage")
        self.judge_line(["send 0 1"], "copy 0 1 0", "ok")
        self.judge_line(["send 0 1", "copy 0 1 0", "arrive 0 1 0"], "arrive 0 1 0", "-")
        self.judge_line([], "copy 1 2 0", "refused invalidmessage")

    def test_a_refusal(self):
        console = Console()
        lines = ["account a", "join a 3", "deposit 0 a 4", "send 0 1", "arrive 0 1 0", "ask a 2", "ask a 1", "send 0 1"]
        self.assertEqual([console.say(line) for line in lines], ["ok", "1", "ok", "ok", "spend 3", "2", "3", "ok"])
        self.assertEqual(console.say("arrive 0 1 0"), "refuse 2, consent 3")

    def test_withdraw(self):
        self.judge_line([], "withdraw 3", "refused missingconsent")
        self.judge_line(["settle"], "withdraw 3", "ok")
        self.judge_line(["settle", "withdraw 3"], "withdraw 3", "refused unknownrequest")
        for value in (0, 1, 2, 4, 999999999999):
            self.judge_line([], f"withdraw {value}", "refused unknownrequest")
        self.judge_line(["settle", "withdraw 3"], "total a", "3")

    def test_spent_and_ideal(self):
        self.judge_line(["settle"], "spent", "3 0")
        self.judge_line(["deposit 0 b 3", "join c 9", "settle"], "spent", "3 3 0")
        self.judge_line(["deposit 0 b 3", "join c 9"], "ideal", "3 3 0")
        self.judge_line([], "ideal", "3 0")
        self.judge(["account a", "ideal", "spent"], ["ok", "-", "-"])

    def test_total(self):
        self.judge_line(["deposit 1 b 3"], "total a", "8")
        self.judge_line(["deposit 1 b 3"], "total b", "3")
        self.judge_line([], "total c", "0")
        for name in ("d", "ab", "total", "abcdefgh"):
            self.judge_line([], f"total {name}", "refused unknownaccount")

    def test_missing(self):
        self.judge_line([], "missing 2", "none")
        self.judge_line([], "missing 1", "deposit 1 a 5")
        self.judge_line(["deposit 0 c 2", "deposit 0 c 1"], "missing 1", "deposit 1 a 5 / deposit 2 c 2, deposit 3 c 1")
        self.judge_line(["deposit 2 b 4"], "missing 1", "deposit 1 a 5 / deposit 2 b 4")
        self.judge_line(["deposit 2 b 4"], "missing 2", "deposit 1 a 5, spender 1 a 3")
        for value in (0, 3, 4, 20, 999999999999):
            self.judge_line([], f"missing {value}", "refused unknownnode")
        self.judge_line(["deposit 0 a 1"] * 12, "missing 1", "refused toomany")
        lines = ["account a", "join a 3", "deposit 0 a 3", "ask a 2", "send 0 1", "arrive 0 1 0"]
        self.assertEqual(console_of(lines).say("missing 1"), "-")

    def test_missing_facts_that_are_rows(self):
        lines = ["account a", "join a 1", "join a 3", "deposit 2 a 3"]
        self.assertEqual(console_of(lines).say("missing 2"), "spender 1 a 1")
        self.assertEqual(console_of(lines + ["deposit 0 a 1"]).say("missing 2"), "deposit 2 a 1, spender 1 a 1")

    def test_knows(self):
        self.judge_line([], "knows 0", "4")
        self.judge_line([], "knows 1", "1")
        self.judge_line(["send 0 2", "arrive 0 2 0"], "knows 2", "5")
        for value in (3, 4, 999999999999):
            self.judge_line([], f"knows {value}", "refused unknownnode")

    def test_settle_over_and_audit(self):
        self.judge_line([], "settle", "3")
        self.judge_line(["settle"], "settle", "1")
        for before in ([], ["settle"], ["settle", "withdraw 3"], ["deposit 1 a 2", "release 2 1", "send 2 1", "arrive 2 1 0"]):
            self.judge_line(before, "over", "none")
            self.judge_line(before, "audit", "ok")


class TestWrongLines(ConsoleCase):
    def judge_what(self, line):
        """Check that the line is answered "what" and has no effect, before and behind the first other line."""
        with self.subTest(line=line):
            console = console_of(["account a"])
            self.assertEqual([console.say(line), console.say("account b")], ["what", "ok"])
            console = console_of(START)
            before = [console.say(each) for each in ("knows 0", "knows 1", "spent", "total a", "ideal")]
            self.assertEqual(console.say(line), "what")
            self.assertEqual([console.say(each) for each in ("knows 0", "knows 1", "spent", "total a", "ideal")], before)

    def test_blanks(self):
        for line in LINES:
            for wrong in (line + " ", " " + line, line + "  ", line.replace(" ", "  "), line.replace(" ", "  ", 1),
                          line + "\n", "\n" + line, line.replace(" ", "\n", 1), line.replace(" ", "", 1)):
                if wrong != line:
                    self.judge_what(wrong)
        for line in ("", " ", "  ", "\n"):
            self.judge_what(line)

    def test_a_word_more_or_less(self):
        for line in LINES:
            words = line.split(" ")
            for more in ("1", "a", "in", "spent"):
                if (words[0], more) != ("account", "in") or len(words) == 4:
                    self.judge_what(line + " " + more)
                    self.judge_what(more + " " + line)
            if len(words) > 1:
                self.judge_what(" ".join(words[:-1]))
                self.judge_what(words[0])
        self.judge_what("account b in")
        self.judge_what("account b on a")
        self.judge_what("account b in a in a")

    def test_other_words(self):
        for line in LINES:
            words = line.split(" ")
            for word in (words[0].upper(), words[0].title(), words[0] + "s", words[0][:-1], "x" + words[0]):
                self.judge_what(" ".join([word] + words[1:]))
        for line in ("tell 0 1 1", "tell 0 1", "do", "log", "made", "actions", "forest", "rule", "books", "nodes", "claims",
                     "balances", "link 0 1", "spender 1", "keeper", "what", "ok", "begin 1", "learn", "help", "quit"):
            self.judge_what(line)

    def test_parts_that_are_none(self):
        for line in LINES:
            words = line.split(" ")
            for at in range(1, len(words)):
                wrong = NO_NUMBERS if words[at].isdigit() else NO_NAMES
                if words[at] != "in":
                    for value in wrong:
                        self.judge_what(" ".join(words[:at] + [value] + words[at + 1:]))

    def test_numbers_of_12_digits(self):
        for line, expected in [
            ("join a 100000000000", "refused invalidbalances"), ("deposit 100000000000 a 1", "refused unknownnode"),
            ("arrive 0 1 999999999999", "refused invalidmessage"), ("knows 999999999999", "refused unknownnode"),
            ("join a 1000000000000", "what"), ("deposit 1000000000000 a 1", "what"), ("arrive 0 1 1000000000000", "what"),
            ("knows 9999999999999", "what"),
        ]:
            self.assertEqual(console_of(START).say(line), expected)

    def test_zero_is_a_number(self):
        for line, expected in [("knows 0", "4"), ("join a 0", "refused invalidbalances"), ("withdraw 0", "refused unknownrequest"),
                               ("missing 0", "refused unknownnode"), ("arrive 0 1 0", "refused invalidmessage")]:
            self.assertEqual(console_of(START).say(line), expected)

    def test_values_that_are_no_strings(self):
        for value in NO_STRINGS + [("spent",), ["spent"], {"spent": True}, [["account", "a"]]]:
            self.judge_what(value)

    def test_other_signs(self):
        for sign in "!#$&'()*+,-./:;<=>?@[]^_`{|}~\"\\":
            self.judge_what(sign)
            self.judge_what("join a" + sign + " 1")
            self.judge_what("join a 1" + sign)
            self.judge_what(sign + "spent")


class TestAnswers(ConsoleCase):
    def test_empty_lines_and_the_last_line_feed(self):
        for text in ("account a\njoin a 3\nspent", "account a\njoin a 3\nspent\n", "\n\naccount a\n\n\njoin a 3\nspent\n\n\n"):
            self.assertEqual(answers(text), ["ok", "1", "0"])
        for text in ("", "\n", "\n\n\n"):
            self.assertEqual(answers(text), [])

    def test_lines_of_blanks_are_not_empty(self):
        self.assertEqual(answers("account a\n \nspent\n  "), ["ok", "what", "-", "what"])

    def test_a_new_console_each_time(self):
        self.assertEqual([answers("account a\njoin a 1"), answers("account a\njoin a 1")], [["ok", "1"]] * 2)
        found = answers("account a")
        found.clear()
        self.assertEqual([type(found), answers("account a")], [list, ["ok"]])

    def test_consoles_do_not_share(self):
        one, other = Console(), Console()
        self.assertEqual([one.say("account a"), other.say("spent"), one.say("join a 1"), other.say("account a")],
                         ["ok", "refused invalidforest", "1", "ok"])


def plain_answer(world, words):
    """Return what the document says of a line that has the right form."""
    word, numbers = words[0], [int(part) if part.isdigit() else part for part in words[1:]]
    match word:
        case "join" | "ask":
            return str(world.do((word, *numbers)))
        case "deposit" | "release" | "send" | "lose" | "copy" | "withdraw":
            world.do((word, *numbers))
            return "ok"
        case "arrive":
            done = world.do((word, *numbers))
            if numbers[1] == 0:
                return str(len(done))
            return ", ".join(f"{each[0]} {each[1]}" for each in done) or "-"
        case "spent" | "ideal":
            return " ".join(map(str, getattr(world, word))) or "-"
        case "total":
            if numbers[0] not in world.forest.names:
                raise UnknownAccount(numbers[0])
            return str(totals(world.forest, world.balances)[numbers[0]])
        case "missing":
            sets = missing(world, numbers[0])
            return "none" if sets is None else " / ".join(", ".join(map(fact_text, facts)) or "-" for facts in sets)
        case "knows":
            if numbers[0] != 0:
                world.spender(numbers[0])
            return str(len(view_of(world, numbers[0])))
        case "settle":
            return str(world.settle())
        case "over":
            return overdrawn(world.forest, world.claims, world.spent, world.balances) or "none"
    return "ok" if audit(books_of(world)) is None else audit(books_of(world))[0]


class TestDrawn(unittest.TestCase):
    OFTEN = ["deposit W NAME N", "send W W", "send W W", "arrive L I", "arrive L I", "arrive L I", "copy L I"]
    FORMS = OFTEN * 3 + [
        "join NAME N", "ask NAME N", "ask NAME N", "release H N", "lose L I", "lose L I", "withdraw P", "withdraw P",
        "withdraw P", "spent", "ideal", "total NAME", "missing H", "knows W", "settle", "settle", "over", "audit",
    ]

    def draw(self, mixed, world):
        requests = [str(fact[1]) for _, fact in world.made if fact[0] == "request"]
        nodes = world.nodes
        full = [f"{node} {to}" for node in nodes for to in nodes if node != to and world.link(node, to)]
        parts = {
            "L": lambda: mixed.one_of(full + ["0 1", "1 3", "2 2"]),
            "NAME": lambda: mixed.one_of(["a", "a", "b", "b", "c", "c", "x"]),
            "N": lambda: str(mixed.below(7)),
            "W": lambda: mixed.one_of("0001112229"),
            "H": lambda: mixed.one_of("0112234"),
            "I": lambda: mixed.one_of(["0", "0", "0", "1"]),
            "P": lambda: mixed.one_of(requests + ["1"]),
        }
        return re.sub("[A-Z]+", lambda found: parts[found.group()](), mixed.one_of(self.FORMS))

    def test_beside_a_world_that_does_the_same(self):
        mixed = Mixed(111)
        said = {}
        for _ in range(160):
            console = console_of(["account a", "account b in a", "account c in a", "join a 5", "join b 4"])
            world = World(Forest([("a", None), ("b", "a"), ("c", "a")]))
            world.do_all([("join", "a", 5), ("join", "b", 4)])
            for _ in range(60):
                line = self.draw(mixed, world)
                try:
                    expected = plain_answer(world, line.split(" "))
                except PurseError as error:
                    expected = "refused " + type(error).__name__.lower()
                found = console.say(line)
                self.assertEqual(found, expected, line)
                word = found if found.startswith("refused ") else line.split(" ")[0]
                said[word] = said.get(word, 0) + 1
        for form in self.FORMS:
            self.assertGreater(said[form.split(" ")[0]], 5, said)
        for error in ("unknownnode", "unknownaccount", "invalidbalances", "toomuch", "invalidmessage", "unknownrequest",
                      "missingconsent"):
            self.assertGreater(said["refused " + error], 5, said)


if __name__ == "__main__":
    unittest.main()
