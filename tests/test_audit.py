"""hearpurse.audit, [10.1] and [10.2]: the books of a world, and the first flaw of any value."""

import unittest

from hearpurse.audit import audit, books_of
from hearpurse.entitlements import overdrawn, totals
from hearpurse.forests import Forest
from hearpurse.rules import RULES
from hearpurse.worlds import World
from tests.auditor import plain_audit
from tests.drawn import draw_world, view_of
from tests.samples import ABC, MIXED, NO_NAMES, Mixed, nested
from tests.test_world_errors import state_of

LARGEST = 10 ** 9

ROWS = tuple(ABC)


def world_of(*actions, rows=ABC, rule="correct"):
    world = World(Forest(rows), rule=rule)
    world.do_all(actions)
    return world


def with_at(values, at, value):
    """Return the tuple with another value at this index."""
    return values[:at] + (value,) + values[at + 1:]


def without(values, at):
    return values[:at] + values[at + 1:]


class AuditCase(unittest.TestCase):
    def judge(self, books, expected):
        with self.subTest(books=books):
            found = audit(books)
            self.assertEqual(repr(found), repr(expected))
            self.assertEqual(plain_audit(books), expected)


class TestBooks(AuditCase):
    def test_they_are_defined_in_their_file(self):
        self.assertEqual([books_of.__module__, audit.__module__], ["hearpurse.audit"] * 2)

    def test_an_empty_world(self):
        self.assertEqual(books_of(World(Forest(ABC))), (ROWS, (), (), ()))
        self.judge(books_of(World(Forest(MIXED))), None)

    def test_by_hand(self):
        world = world_of(("join", "b", 4), ("deposit", 1, "b", 3), ("join", "a", 2), ("release", 2, 1), ("send", 1, 2))
        world.do(("arrive", 1, 2, 0))
        row, deposit, junior, release = ("spender", 1, "b", 4), ("deposit", 1, "b", 3), ("spender", 2, "a", 2), ("release", 2, 1)
        self.assertEqual(books_of(world=world), (
            (("a", None), ("b", "a"), ("c", "a")),
            ((0, row), (1, deposit), (0, junior), (2, release)),
            (row, junior),
            ((("learned", (deposit,)), ("spend", 3)), (release, ("learned", (deposit, row)))),
        ))
        self.judge(books_of(world), None)
        self.assertIsNone(audit(books=books_of(world)))

    def test_the_rows_in_the_order_of_the_names(self):
        for rows in (MIXED, [("z", None), ("a", "z"), ("b", None), ("c", "a")]):
            self.assertEqual(books_of(World(Forest(rows)))[0], tuple(rows))

    def test_of_drawn_worlds(self):
        mixed = Mixed(101)
        for turn in range(80):
            world = draw_world(mixed, 60, settles=10 + turn)
            before, log = state_of(world), world.log
            rows, made, known, logs = books = books_of(world)
            self.assertEqual(Forest(rows), world.forest)
            self.assertEqual([made, known], [tuple(world.made), tuple(world.keeper.facts)])
            self.assertEqual(logs, tuple(tuple(world.spender(place).log) for place in world.nodes[1:]))
            self.judge(books, None)
            self.assertEqual([state_of(world), world.log], [before, log])

    def test_great_books(self):
        world = World(Forest(ABC))
        for place in range(1, 20):
            world.do(("join", "abc"[place % 3], place))
        world.do_all([("deposit", mark % 20, "abc"[mark % 3], 2) for mark in range(60)] + [("ask", "a", 2)])
        world.settle()
        world.do_all([("release", place, 1) for place in range(1, 20) if world.spender(place).view.claim(place) >
                      world.spender(place).spent])
        self.assertIsNone(audit(books_of(world)))
        self.assertEqual(len(world.nodes), 20)


class TestForm(AuditCase):
    def setUp(self):
        world = world_of(("join", "b", 4), ("deposit", 1, "b", 3), ("join", "a", 2))
        self.books = books_of(world)

    def test_any_value(self):
        for value in NO_NAMES + ["a", "form", nested(19, (), lambda inner: (inner,))]:
            self.judge(value, ("form",))
            self.judge((value,) * 4, ("form",))
            for at in range(4):
                # The keeper need not know anything.
                expected = None if (at, value) == (2, ()) else ("form",)
                self.judge(with_at(self.books, at, value), expected)

    def test_parts_more_or_less_and_lists(self):
        for many in range(4):
            self.judge(self.books[:many], ("form",))
        self.judge(self.books + ((),), ("form",))
        self.judge(list(self.books), ("form",))
        for at in range(4):
            self.judge(with_at(self.books, at, list(self.books[at])), ("form",))
            for k in range(len(self.books[at])):
                self.judge(with_at(self.books, at, with_at(self.books[at], k, list(self.books[at][k]))), ("form",))

    def test_rows(self):
        for rows in (
            (), (("a", None), ("a", None)), (("a", "b"), ("b", None)), (("A", None),), (("a", None, None),), (("a",),),
            (("a", None), ("b", "a"), ("c", 1)), tuple((name, None) for name in "abcdefghi"), (("abcdefghi", None),),
        ):
            self.judge(with_at(self.books, 0, rows), ("form",))
        # Facts name accounts of the books' own forest.
        self.judge(with_at(self.books, 0, (("a", None), ("c", "a"))), ("form",))
        self.judge(with_at(self.books, 0, (("b", None), ("a", "b"))), None)

    def test_makers_and_facts(self):
        made = self.books[1]
        for value in (-1, 21, True, False, None, "0", "1", (0,), [], 10 ** 30):
            for at in range(3):
                self.judge(with_at(self.books, 1, with_at(made, at, (value, made[at][1]))), ("form",))
        for fact in (("spender", 1, "b", 0), ("spender", 1, "x", 4), ("learned", ()), ("spend", 3), None, (), ["a"],
                     ("spender", True, "b", 4), ("deposit", 1000, "a", 1), ("consent", 2, 2)):
            for at in range(3):
                self.judge(with_at(self.books, 1, with_at(made, at, (0, fact))), ("form",))
            self.judge(with_at(self.books, 2, self.books[2] + (fact,)), ("form",))
            self.judge(with_at(self.books, 2, (fact,) + self.books[2]), ("form",))
        for pair in (made[0][1], (0,), (0, made[0][1], 0), [0, made[0][1]], (made[0][1], 0)):
            self.judge(with_at(self.books, 1, (pair,) + made[1:]), ("form",))
        # Makers up to 20 have the form, whoever they are.
        for maker in (1, 2, 20):
            self.judge(with_at(self.books, 1, with_at(made, 0, (maker, made[0][1]))), ("made", 0))

    def test_logs(self):
        rows, made, known, logs = self.books
        for count in (0, 1, 3):
            self.judge((rows, made, known, (logs * 2)[:count]), ("form",))
        self.judge((rows, made[:2], (), logs), ("form",))
        for entry in (
            None, (), ("learned",), ("learned", (), ()), ("learned", []), ("learned", ((),)), ("learned", made[1][1]),
            ("learned", (("spend", 1),)), ("learned", [made[1][1]]), ("spend",), ("spend", 0), ("spend", LARGEST + 1),
            ("spend", True), ("spend", "1"), ("spend", (1,)), ("spend", 1, 1), ("Spend", 1), ("spent", 1), ["spend", 1],
            made[0][1], made[1][1], ("withdrawn", 3), ("request", 3, "a", 1), ("release", 1), ("release", 1, 0),
            ("consent", 1, 1), ("consent", 1, 2), ("refuse", 3), "spend", ([], 1), ({}, ()), (("learned",), ()),
        ):
            for which in (0, 1):
                for at in (0, len(logs[which])):
                    log = logs[which][:at] + (entry,) + logs[which][at:]
                    self.judge((rows, made, known, with_at(logs, which, log)), ("form",))
        # These have the form, whoever's they are.
        for entry in (("release", 20, 1), ("consent", 20, 19), ("refuse", 2, 1), ("spend", 1), ("spend", LARGEST)):
            self.judge((rows, made, known, with_at(logs, 1, (entry,))), ("log", 2, 0))


def logs_for(made):
    """Return as many empty logs as there are spenders' rows."""
    return ((),) * len([fact for _, fact in made if fact[0] == "spender"])


class TestMade(AuditCase):
    """Whatever stands in the logs, the facts that were made are looked at first."""

    def check(self, pairs, expected, behind=()):
        made = tuple(behind) + tuple(pairs)
        self.judge((ROWS, made, (), logs_for(made)), expected)

    def refuse(self, behind, pair):
        """Check that the pair is impossible there, and that what stands behind it does not matter."""
        self.check([pair], ("made", len(behind)), behind)
        self.check([pair, (0, ("withdrawn", 20)), pair], ("made", len(behind)), behind)

    def accept(self, behind, *pairs):
        """Check that all these are possible, so that the first flaw is the one behind them."""
        self.check(list(pairs) + [(20, ("withdrawn", 20))], ("made", len(behind) + len(pairs)), behind)

    FIRST = (0, ("spender", 1, "a", 5))
    SECOND = (0, ("spender", 2, "b", 5))
    MONEY = (0, ("deposit", 1, "a", 6))

    def test_rows(self):
        self.accept([], self.FIRST)
        self.accept([self.FIRST], self.SECOND)
        for behind, place in (([], 1), ([self.FIRST], 2), ([self.FIRST, self.MONEY, self.SECOND], 3)):
            for maker in (0, 1, 2, 20):
                for other in (1, 2, 3, 4, 20):
                    pair = (maker, ("spender", other, "c", 1))
                    if (maker, other) == (0, place):
                        self.accept(behind, pair)
                    else:
                        self.refuse(behind, pair)
        self.refuse([self.FIRST], self.FIRST)

    def test_20_rows(self):
        rows = [(0, ("spender", place, "a", 1)) for place in range(1, 21)]
        self.accept([], *rows)
        self.refuse(rows, (0, ("spender", 20, "a", 1)))
        self.refuse(rows, (0, ("spender", 1, "a", 1)))

    def test_requests(self):
        self.refuse([], (0, ("request", 1, "a", 1)))
        behind = [self.FIRST, self.MONEY, (1, ("deposit", 2, "b", 9)), (0, ("deposit", 3, "a", 2))]
        self.accept(behind, (0, ("request", 2, "a", 8)))
        self.accept(behind, (0, ("request", 2, "b", 9)))
        for pair in ((0, ("request", 2, "a", 9)), (0, ("request", 2, "b", 10)), (0, ("request", 2, "c", 1)),
                     (1, ("request", 2, "a", 1)), (2, ("request", 2, "a", 1)), (0, ("request", 3, "a", 1)),
                     (0, ("request", 1, "a", 1))):
            self.refuse(behind, pair)
        behind += [(0, ("request", 2, "a", 5))]
        self.accept(behind, (0, ("request", 3, "a", 3)))
        self.refuse(behind, (0, ("request", 3, "a", 4)))
        self.refuse(behind + [(1, ("consent", 2, 1))], (0, ("request", 3, "a", 4)))
        self.refuse(behind + [(1, ("consent", 2, 1)), (0, ("withdrawn", 2))], (0, ("request", 3, "a", 4)))
        self.accept(behind + [(1, ("refuse", 2, 1))], (0, ("request", 3, "a", 8)))
        self.refuse(behind + [(1, ("refuse", 2, 1))], (0, ("request", 3, "a", 9)))
        # A refusal behind it comes too late, a deposit too.
        self.check([(0, ("request", 3, "a", 4)), (1, ("refuse", 2, 1))], ("made", 5), behind)
        self.check([(0, ("request", 3, "a", 4)), (0, ("deposit", 4, "a", 9))], ("made", 5), behind)

    def test_deposits(self):
        self.accept([], (0, ("deposit", 1, "a", LARGEST)), (0, ("deposit", 2, "a", 1)))
        self.accept([self.FIRST, self.MONEY], (1, ("deposit", 2, "c", 1)))
        for mark in (2, 3, 60, 999):
            self.refuse([self.FIRST], (0, ("deposit", mark, "a", 1)))
            self.refuse([self.FIRST], (1, ("deposit", mark, "a", 1)))
        for mark in (1, 3):
            self.refuse([self.FIRST, self.MONEY], (0, ("deposit", mark, "a", 1)))
        self.refuse([], (1, ("deposit", 1, "a", 1)))
        for maker in (2, 3, 20):
            self.refuse([self.FIRST, self.MONEY], (maker, ("deposit", 2, "a", 1)))
        # A request is no spender.
        self.refuse([self.FIRST, self.MONEY, (0, ("request", 2, "a", 1))], (2, ("deposit", 2, "a", 1)))

    def test_60_deposits_and_one_more(self):
        money = [(0, ("deposit", mark, "abc"[mark % 3], 1)) for mark in range(1, 61)]
        self.accept([], *money)
        self.refuse(money, (0, ("deposit", 61, "a", 1)))
        self.refuse(money, (0, ("deposit", 60, "a", 1)))

    def test_answers(self):
        behind = [self.FIRST, self.MONEY, self.SECOND, (0, ("request", 3, "a", 1)), (0, ("spender", 4, "c", 1))]
        for word in ("consent", "refuse"):
            self.accept(behind, (1, (word, 3, 1)), (2, (word, 3, 2)))
            for maker in (0, 2, 3, 4, 20):
                self.refuse(behind, (maker, (word, 3, 1)))
            # No request there, or none so far.
            for request in (2, 4, 5, 20):
                self.refuse(behind, (1, (word, request, 1)))
            self.refuse(behind[:3], (1, (word, 3, 1)))
            # No spender there, or none so far.
            self.refuse(behind + [(0, ("request", 5, "a", 1))], (3, (word, 5, 3)))
            self.refuse(behind + [(0, ("request", 5, "a", 1))], (6, (word, 7, 6)))
            for other in ("consent", "refuse"):
                self.refuse(behind + [(1, (other, 3, 1))], (1, (word, 3, 1)))
                self.accept(behind + [(1, (other, 3, 1))], (2, (word, 3, 2)))
                self.accept(behind + [(1, (other, 3, 1)), (0, ("request", 5, "a", 1))], (1, (word, 5, 1)))

    def test_releases(self):
        behind = [self.FIRST, self.SECOND, self.MONEY, (0, ("request", 3, "a", 1))]
        self.accept(behind, (1, ("release", 1, 1)), (1, ("release", 1, 4)), (2, ("release", 2, 5)), (1, ("release", 1, 5)))
        for maker in (0, 2, 3):
            self.refuse(behind, (maker, ("release", 1, 1)))
        self.refuse(behind, (3, ("release", 3, 1)))
        self.refuse(behind, (4, ("release", 4, 1)))
        self.refuse([], (1, ("release", 1, 1)))
        for total in (6, 7, LARGEST):
            self.refuse(behind, (1, ("release", 1, total)))
        for total in (1, 2, 3, 6):
            self.refuse(behind + [(1, ("release", 1, 3))], (1, ("release", 1, total)))
        self.accept(behind + [(1, ("release", 1, 3))], (2, ("release", 2, 1)), (1, ("release", 1, 4)))

    def test_withdrawals(self):
        self.accept([self.MONEY, (0, ("request", 1, "a", 2)), self.SECOND], (0, ("withdrawn", 1)))
        behind = [self.FIRST, self.MONEY, (0, ("spender", 2, "c", 1)), (0, ("request", 3, "a", 2)), (0, ("spender", 4, "c", 1)),
                  (0, ("request", 5, "a", 2))]
        both = [(1, ("consent", 3, 1)), (2, ("consent", 3, 2))]
        self.accept(behind, *both, (0, ("withdrawn", 3)))
        self.accept(behind, *both[::-1], (0, ("withdrawn", 3)))
        for maker in (1, 2, 3, 20):
            self.refuse(behind + both, (maker, ("withdrawn", 3)))
        for place in (1, 2, 4, 5, 6, 20):
            self.refuse(behind + both, (0, ("withdrawn", place)))
        self.refuse(behind + both + [(0, ("withdrawn", 3))], (0, ("withdrawn", 3)))
        for few in ([], both[:1], both[1:], [both[0], (2, ("consent", 5, 2))]):
            self.refuse(behind + few, (0, ("withdrawn", 3)))
        self.refuse(behind + [both[0], (2, ("refuse", 3, 2))], (0, ("withdrawn", 3)))
        self.refuse(behind + [(1, ("consent", 5, 1)), (2, ("consent", 5, 2))], (0, ("withdrawn", 5)))
        self.accept(behind + [(4, ("consent", 5, 4)), (1, ("consent", 5, 1)), (2, ("consent", 5, 2))], (0, ("withdrawn", 5)))

    def test_made_is_looked_at_before_the_logs_and_what_the_keeper_knows(self):
        made = (self.FIRST, (0, ("deposit", 2, "a", 1)))
        self.judge((ROWS, made, (("withdrawn", 9),), ((("spend", 1),),)), ("made", 1))


class TestLogs(AuditCase):
    def setUp(self):
        self.world = world_of(
            ("join", "a", 5), ("join", "a", 4), ("deposit", 0, "a", 3), ("ask", "a", 1), ("deposit", 0, "a", 4),
            ("tell", 0, 1, (("deposit", 1, "a", 3),)), ("arrive", 0, 1, 0), ("release", 2, 1),
            ("send", 0, 1), ("arrive", 0, 1, 0), ("send", 0, 2), ("arrive", 0, 2, 0), ("send", 0, 2), ("arrive", 0, 2, 0),
        )
        self.one, self.two = ("deposit", 1, "a", 3), ("deposit", 2, "a", 4)
        self.first, self.second, self.request = ("spender", 1, "a", 5), ("spender", 2, "a", 4), ("request", 3, "a", 1)
        self.rows, self.made, self.known, self.logs = books_of(self.world)

    def judge_log(self, place, log, expected):
        logs = with_at(self.logs, place - 1, tuple(log))
        self.judge((self.rows, self.made, self.known, logs), expected if expected is None else ("log", place) + expected)

    def test_as_it_is(self):
        self.assertEqual(self.logs, (
            (("learned", (self.one,)), ("spend", 3), ("learned", (self.two, self.request, self.second)), ("consent", 3, 1),
             ("spend", 2)),
            (("release", 2, 1), ("learned", (self.one, self.two, self.request, self.first)), ("consent", 3, 2), ("spend", 1),
             ("learned", ())),
        ))
        self.judge((self.rows, self.made, self.known, self.logs), None)

    def test_learned_in_another_way(self):
        self.judge_log(1, [
            ("learned", ()), ("learned", (self.second, self.request)), ("consent", 3, 1), ("learned", (self.two,)),
            ("spend", 3), ("learned", (self.one,)), ("spend", 2),
        ], None)

    def test_a_fact_that_was_not_made(self):
        for fact in (("deposit", 3, "a", 1), ("deposit", 1, "a", 4), ("withdrawn", 3), ("release", 2, 2), ("refuse", 3, 2)):
            self.judge_log(1, [("learned", (fact,))], (0,))
            self.judge_log(1, [("learned", (self.second, fact, self.request))], (0,))
            self.judge_log(1, [("learned", (self.second,)), ("learned", (fact,))], (1,))

    def test_a_fact_that_was_known(self):
        for facts in ((self.first,), (self.one, self.first)):
            self.judge_log(1, [("learned", facts)], (0,))
        self.judge_log(1, [("learned", (self.second,)), ("learned", (self.request, self.second))], (1,))
        self.judge_log(1, [("learned", (self.one,)), ("spend", 3), ("learned", (self.one,))], (2,))

    def test_a_fact_twice(self):
        self.judge_log(1, [("learned", (self.second, self.second))], (0,))
        self.judge_log(1, [("learned", (self.second, self.one, self.second)), ("spend", 3)], (0,))

    def test_an_answer_or_release_of_its_own(self):
        self.judge_log(1, [("learned", (self.request, ("consent", 3, 1)))], (0,))
        self.judge_log(1, [("learned", (self.one,)), ("spend", 3), ("learned", (("release", 1, 1),))], (2,))
        self.judge_log(2, [("learned", (("release", 2, 1),))], (0,))
        self.judge_log(2, [("release", 2, 1), ("learned", (("consent", 3, 2),))], (1,))
        # Those of the other one are facts like others.
        learned = ("learned", (("release", 2, 1), ("consent", 3, 2)))
        self.judge((self.rows, self.made, self.known, with_at(self.logs, 0, (learned,) + self.logs[0])), None)

    def test_what_is_due_is_missing(self):
        log = list(self.logs[0])
        self.judge_log(1, log[:1], (1,))
        self.judge_log(1, log[:3], (3,))
        self.judge_log(1, log[:4], (4,))
        self.judge_log(1, log[:1] + log[2:], (1,))
        self.judge_log(1, log[:3] + log[4:], (3,))
        self.judge_log(1, log[:1] + [("learned", ())] + log[1:], (1,))
        self.judge_log(1, log[:3] + [log[4], log[3]], (3,))
        self.judge_log(2, [("learned", (self.one, self.two, self.first)), ("release", 2, 1), ("spend", 2)], (1,))

    def test_what_is_not_due(self):
        log = list(self.logs[0])
        for entry in (("spend", 3), ("spend", 1), ("consent", 3, 1), ("refuse", 3, 1), ("consent", 3, 2), ("consent", 9, 1)):
            self.judge_log(1, [entry] + log, (0,))
            self.judge_log(1, log + [entry], (5,))
            self.judge_log(1, log[:2] + [entry] + log[2:], (2,))

    def test_what_is_due_in_another_way(self):
        log = list(self.logs[0])
        for amount in (1, 2, 4, LARGEST):
            self.judge_log(1, [log[0], ("spend", amount)] + log[2:], (1,))
        for entry in (("refuse", 3, 1), ("consent", 3, 2), ("consent", 4, 1), ("release", 1, 1)):
            self.judge_log(1, with_at(tuple(log), 3, entry), (3,))

    def test_a_due_answer_that_was_not_made(self):
        made = tuple(pair for pair in self.made if pair != (1, ("consent", 3, 1)))
        self.judge((self.rows, made, self.known, self.logs), ("log", 1, 3))

    def test_releases(self):
        log = list(self.logs[1])
        for total in (2, 3, 4):
            self.judge_log(2, [("release", 2, total)] + log[1:], (0,))
        self.judge_log(2, log + [("release", 2, 1)], (5,))
        self.judge_log(2, [log[0], log[0]] + log[1:], (1,))
        self.judge_log(1, [("release", 2, 1)], (0,))
        self.judge_log(1, list(self.logs[0]) + [("release", 2, 1)], (5,))
        self.judge_log(1, [("release", 1, 1)], (0,))

    def test_a_release_of_more_than_is_left(self):
        # The release of the second one behind its spending of 1: 4 less 1 leaves 3.
        made = self.made + ((2, ("release", 2, 3)), (2, ("release", 2, 4)))
        log = self.logs[1] + (("release", 2, 3),)
        books = (self.rows, made, self.known, with_at(self.logs, 1, log))
        # Then only the last one is in no log.
        self.judge(books, ("made", len(made) - 1))
        self.judge((self.rows, made[:-1], self.known, with_at(self.logs, 1, log)), None)
        log = self.logs[1] + (("release", 2, 4),)
        self.judge((self.rows, made, self.known, with_at(self.logs, 1, log)), ("log", 2, 5))
        self.judge((self.rows, made, self.known, with_at(self.logs, 1, log[:-1] + (("release", 2, 3),) * 2)), ("log", 2, 6))

    def test_the_first_spender_first(self):
        wrong = (("spend", 1),)
        self.judge((self.rows, self.made, self.known, (self.logs[0] + wrong, wrong)), ("log", 1, 5))
        self.judge((self.rows, self.made, self.known, (self.logs[0], wrong)), ("log", 2, 0))
        self.judge((self.rows, self.made, (("withdrawn", 3),), (self.logs[0], wrong)), ("log", 2, 0))

    def test_places_with_requests_between(self):
        world = world_of(("deposit", 0, "a", 9), ("ask", "a", 1), ("join", "a", 3), ("ask", "a", 1), ("join", "b", 1))
        rows, made, known, logs = books_of(world)
        self.judge((rows, made, known, (logs[0] + (("spend", 1),), logs[1])), ("log", 2, 0))
        self.judge((rows, made, known, (logs[0], logs[1] + (("learned", ()), ("spend", 1)))), ("log", 4, 1))


class TestUnloggedAndKnown(AuditCase):
    def setUp(self):
        world = world_of(("join", "a", 5), ("deposit", 1, "a", 3), ("release", 1, 1), ("send", 1, 0), ("arrive", 1, 0, 0),
                         ("ask", "a", 2), ("join", "b", 1), ("send", 0, 3), ("arrive", 0, 3, 0), ("release", 1, 1))
        self.rows, self.made, self.known, self.logs = self.books = books_of(world)

    def test_as_they_are(self):
        self.judge(self.books, None)
        self.assertEqual([fact for maker, fact in self.made if maker == 1],
                         [("deposit", 1, "a", 3), ("release", 1, 1), ("release", 1, 2)])

    def test_an_answer_or_release_in_no_log(self):
        self.judge((self.rows, self.made, self.known, with_at(self.logs, 0, self.logs[0][:-1])), ("made", 5))
        self.judge((self.rows, self.made, self.known, with_at(self.logs, 0, self.logs[0][:-2])), ("made", 2))
        answer = (1, ("refuse", 2, 1))
        self.judge((self.rows, self.made + (answer,), self.known, self.logs), ("made", 6))
        self.judge((self.rows, self.made[:5] + (answer,) + self.made[5:], self.known, self.logs), ("made", 5))
        logs = with_at(self.logs, 0, self.logs[0][:-1])
        self.judge((self.rows, self.made, (("withdrawn", 1),), logs), ("made", 5))

    def test_it_must_be_in_its_makers_log(self):
        learned = ("learned", (("release", 1, 2),))
        logs = (self.logs[0][:-1], self.logs[1] + (learned,))
        self.judge((self.rows, self.made, self.known, logs), ("made", 5))

    def test_what_the_keeper_knows(self):
        for at in range(len(self.known)):
            self.judge(with_at(self.books, 2, without(self.known, at)), None)
            self.judge(with_at(self.books, 2, self.known[:at] + (("withdrawn", 2),)), ("known", at))
            self.judge(with_at(self.books, 2, self.known[:at + 1] + self.known[at:]), ("known", at + 1))
            self.judge(with_at(self.books, 2, self.known[:at] + (("deposit", 1, "a", 4),) + self.known[at:]), ("known", at))
        self.judge(with_at(self.books, 2, self.known[::-1]), ("known", 1))
        self.judge(with_at(self.books, 2, ()), None)
        self.judge(with_at(self.books, 2, tuple(sorted(fact for _, fact in self.made))), None)


class TestChanged(AuditCase):
    """Books of drawn worlds with one thing changed at any place and depth."""

    VALUES = [0, 1, 2, 3, 4, 5, 20, 21, 61, LARGEST, LARGEST + 1, -1, True, False, None, "a", "b", "x", "", "spend", "learned",
              "consent", "refuse", "release", "spender", "request", "deposit", "withdrawn", (), ("a",), [], {}, ("spend", 1),
              ("learned", ()), ("withdrawn", 1), ("release", 1, 1), ("consent", 3, 1), ("refuse", 3, 1), (0, ("withdrawn", 1))]

    def change(self, mixed, value, depth):
        """Return the tuple with one thing in it, at most so deep, left out, doubled, moved or replaced."""
        if not isinstance(value, tuple) or depth == 0 or not value:
            if isinstance(value, int) and mixed.below(2) == 0:
                return value + mixed.one_of([-1, 1])
            return mixed.one_of(self.VALUES)
        at = mixed.below(len(value))
        match mixed.below(9):
            case 0:
                return without(value, at)
            case 1:
                return value[:at] + (value[at],) + value[at:]
            case 2:
                other = mixed.below(len(value))
                rest = without(value, at)
                return rest[:other] + (value[at],) + rest[other:]
            case 3:
                return value[:at] + (value[mixed.below(len(value))],) + value[at:]
        return with_at(value, at, self.change(mixed, value[at], depth - 1))

    def check_money(self, books):
        """Check that by books without a flaw no account is overdrawn, and that no total is below 0."""
        rows, made, _, logs = books
        facts = [fact for _, fact in made]
        balances = {name: sum([fact[3] for fact in facts if fact[0] == "deposit" and fact[2] == name]) for name, _ in rows}
        for fact in facts:
            if fact[0] == "request" and ("withdrawn", fact[1]) in facts:
                balances[fact[2]] -= fact[3]
        released = {fact[1]: fact[2] for fact in facts if fact[0] == "release"}
        claims = [(fact[2], fact[3] - released.get(fact[1], 0)) for fact in facts if fact[0] == "spender"]
        spent = [sum([entry[1] for entry in log if entry[0] == "spend"]) for log in logs]
        self.assertTrue(all(balance >= 0 for balance in balances.values()))
        self.assertIsNone(overdrawn(Forest(rows), claims, spent, balances))
        self.assertTrue(all(total >= 0 for total in totals(Forest(rows), balances).values()))

    def test_beside_what_the_document_says(self):
        mixed = Mixed(103)
        found = {}
        for turn in range(200):
            books = books_of(draw_world(mixed, 30 + mixed.below(30), settles=15))
            for _ in range(25):
                changed = self.change(mixed, books, 1 + mixed.below(6))
                if mixed.below(4) == 0:
                    changed = self.change(mixed, changed, 1 + mixed.below(6))
                flaw = audit(changed)
                with self.subTest(changed=changed):
                    self.assertEqual(repr(flaw), repr(plain_audit(changed)))
                    if flaw is None:
                        self.check_money(changed)
                word = None if flaw is None else flaw[0]
                found[word] = found.get(word, 0) + 1
        for word in (None, "form", "made", "log", "known"):
            self.assertGreater(found[word], 50, found)

    def test_books_of_worlds_with_faulty_rules(self):
        mixed = Mixed(104)
        flaws = 0
        for rule in RULES:
            for _ in range(25):
                books = books_of(draw_world(mixed, 60, rule=rule))
                flaw = audit(books)
                self.assertEqual(flaw, plain_audit(books))
                if rule == "correct":
                    self.assertIsNone(flaw)
                elif flaw is None:
                    self.check_money(books)
                else:
                    self.assertEqual(flaw[0], "log")
                    flaws += 1
        self.assertGreater(flaws, 50)

    def test_the_books_stay_as_they_are(self):
        world = draw_world(Mixed(105), 60)
        books = books_of(world)
        before = repr(books)
        self.assertEqual([audit(books), audit(books), repr(books)], [None, None, before])
        self.assertEqual(view_of(world, 0).facts, list(books[2]))


if __name__ == "__main__":
    unittest.main()
