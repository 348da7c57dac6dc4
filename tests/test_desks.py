import contextlib
import inspect
import random
import unittest

from fliponce.desks import Desk, tried
from fliponce.errors import Broken, InvalidIndex, InvalidPromise, InvalidRule, InvalidSwitches, NothingToUndo
from fliponce.panels import Panel
from plain import all_rules, all_settings, promise_plainly
from values import AlwaysEqual, NeverAnswers, odd_elements, odd_values

ABC = ("a", "b", "c")
TEN = tuple("jihgfedcba")
A, B, C = ("a", "+"), ("b", "+"), ("c", "+")
BE_A, NOT_A = ("be", A), ("be", ("a", "-"))
NEEDS_AB, NEEDS_BC, SAME_AB = ("needs", A, B), ("needs", B, C), ("same", "a", "b")
NO_RULES = [
    (), ("be",), ("be", A, B), ("be", "a"), ("be", ("d", "+")), ("be", ("a", "*")), ("either", A), ("either", A, A),
    ("either", A, ("a", "-")), ("same", "a", "a"), ("same", "a", "d"), ("same", A, B), ("needs", "a", "b"),
    ["be", A], ("be", ["a", "+"]), ("is", A), "be +a", ("unlike", "a"), (A, B),
]
NO_PROMISES = [
    (), ("loose",), ("loose", "d"), ("loose", A), ("loose", "a", "b"), ("one piece", 1), ("many",), ("many", -1),
    ("many", True), ("many", "1"), ("good",), ("good", ""), ("good", "++"), ("good", "++++"), ("good", "++*"),
    ("good", b"+++"), ("good", ("+", "+", "+")), ("good", "+++", "---"), ("implies",), ("implies", "be +a"),
    ("implies", BE_A, BE_A), ("implies", ("be", ("d", "+"))), ("implies", ("same", "a", "a")), "one piece",
    ["good", "+++"], ["one piece"], BE_A, ("Good", "+++"), ("", "+++"), (("many", 1),), ("loose", "a "),
    ("Implies", BE_A), ("is", BE_A), ("", BE_A), ("many", BE_A), ("good", BE_A), ("loose", BE_A), ("one piece", BE_A),
]
NO_NUMBERS = [value for value in odd_values() if isinstance(value, bool) or not isinstance(value, int)]
NO_INDEXES = NO_NUMBERS + [-1, -10 ** 59, 10 ** 59, "0", "", (0,), [0], b"0"]


def shown(desk):
    return (desk.switches, desk.rules, desk.promises, len(desk), bool(desk), desk.as_panel().text())


def led_back(desk):
    """All that a desk may still take back."""
    told = []
    with desk.trial():
        while len(desk):
            desk.undo()
            told.append((desk.rules, desk.promises))
    return told


def made(rules=(), promises=(), switches=ABC):
    desk = Desk(switches)
    for index, rule in enumerate(rules):
        desk.put(index, rule)
    for promise in promises:
        desk.promise(promise)
    return desk


class DeskTest(unittest.TestCase):
    def refused(self, desk, error, told, *calls):
        """Whether each of the calls raises this error with this value, and changes nothing."""
        before, line = shown(desk), led_back(desk)
        for call in calls:
            with self.assertRaises(error) as caught:
                call()
            self.assertIs(type(caught.exception), error)
            [value] = list(vars(caught.exception).values()) or [None]
            self.assertTrue(value is told or (type(value) is int and value == told), (value, told))
            self.assertEqual(shown(desk), before)
        self.assertEqual(led_back(desk), line)


class NewTest(DeskTest):
    def test_new(self):
        for desk in (Desk(ABC), Desk(switches=ABC)):
            self.assertEqual(shown(desk), (ABC, (), (), 0, False, "switches a, b, c"))
            self.assertIs(desk.switches, ABC)
            self.assertLessEqual({"switches", "rules", "promises"}, set(vars(desk)))
            self.assertIsInstance(desk.as_panel(), Panel)
            self.assertEqual(desk.as_panel(), Panel(ABC))

    def test_wrong_switches(self):
        for value, index in [
            ((), None), (["a"], None), ("abc", None), (("a", "a"), 1), (("a", "be"), 1), (("A", "a"), 0),
            (TEN + ("k",), 10), (("a", "b", "abcdefghi", "b"), 2),
        ] + [(value, None) for value in odd_elements()] + [(("a", value), 1) for value in odd_values()]:
            for call in (lambda: Desk(value), lambda: Desk(switches=value)):
                with self.assertRaises(InvalidSwitches) as caught:
                    call()
                self.assertEqual(caught.exception.index, index)

    def test_equal_to_itself_alone(self):
        one, two = Desk(ABC), Desk(ABC)
        self.assertTrue(one == one)
        self.assertTrue(one != two)

    def test_names(self):
        names = {
            Desk: ["switches"], Desk.as_panel: ["self"], Desk.put: ["self", "index", "rule"],
            Desk.take: ["self", "index"], Desk.promise: ["self", "promise"], Desk.lift: ["self", "index"],
            Desk.undo: ["self"], Desk.trial: ["self"], tried: ["desk", "act"],
        }
        for question, wanted in names.items():
            self.assertEqual(list(inspect.signature(question).parameters), wanted)
        listed = {"as_panel", "put", "take", "promise", "lift", "undo", "trial", "__len__"}
        self.assertLessEqual(listed, set(vars(Desk)))


class PutAndTakeTest(DeskTest):
    def test_put_at_each_index(self):
        rules = (NEEDS_AB, NEEDS_BC, SAME_AB)
        for index in range(4):
            desk = made(rules)
            self.assertIsNone(desk.put(index, BE_A))
            self.assertEqual(desk.rules, rules[:index] + (BE_A,) + rules[index:])
            self.assertEqual(len(desk), 4)
            self.assertEqual(desk.as_panel(), Panel(ABC, desk.rules))
        desk = made(rules)
        self.refused(desk, InvalidIndex, 4, lambda: desk.put(4, BE_A), lambda: desk.put(rule=None, index=4))

    def test_take_from_each_index(self):
        rules = (NEEDS_AB, NEEDS_BC, SAME_AB)
        for index in range(3):
            desk = made(rules)
            self.assertIsNone(desk.take(index))
            self.assertEqual(desk.rules, rules[:index] + rules[index + 1:])
            self.assertEqual(len(desk), 4)
        desk = made(rules)
        self.refused(desk, InvalidIndex, 3, lambda: desk.take(3), lambda: desk.take(index=3))
        empty = Desk(ABC)
        self.refused(empty, InvalidIndex, 0, lambda: empty.take(0))

    def test_by_name_and_a_rule_that_stands_twice(self):
        desk = Desk(ABC)
        desk.put(index=0, rule=BE_A)
        desk.put(rule=BE_A, index=0)
        self.assertEqual(desk.rules, (BE_A, BE_A))
        desk.take(index=1)
        self.assertEqual(desk.rules, (BE_A,))
        self.assertIs(desk.rules[0], BE_A)

    def test_all_rules(self):
        desk = Desk(("b", "a"))
        for rule in all_rules(("b", "a")):
            desk.put(0, rule)
            self.assertIs(desk.rules[0], rule)
            desk.take(0)
        self.assertEqual((desk.rules, len(desk)), ((), 2 * len(all_rules(("b", "a")))))

    def test_other_indexes(self):
        desk = made((NEEDS_AB, NEEDS_BC))
        for value in NO_INDEXES:
            self.refused(
                desk, InvalidIndex, value, lambda: desk.put(value, BE_A), lambda: desk.put(value, None),
                lambda: desk.put(index=value, rule=BE_A), lambda: desk.take(value), lambda: desk.take(index=value),
                lambda: desk.lift(value), lambda: desk.lift(index=value),
            )

    def test_no_rules(self):
        desk = made((NEEDS_AB,), (("many", 1),))
        for value in odd_values() + NO_RULES + [("be", (value, "+")) for value in odd_values()]:
            self.refused(
                desk, InvalidRule, value, lambda: desk.put(0, value), lambda: desk.put(1, value),
                lambda: desk.put(rule=value, index=1),
            )

    def test_240_rules_and_one_more(self):
        desk = made((SAME_AB,) * 240)
        self.assertEqual((len(desk.rules), len(desk)), (240, 240))
        for index in (0, 100, 240):
            for rule in (BE_A, SAME_AB, None):
                self.refused(desk, InvalidRule, rule, lambda: desk.put(index, rule))
        self.refused(desk, InvalidIndex, 241, lambda: desk.put(241, BE_A))
        desk.take(239)
        desk.put(239, BE_A)
        self.assertEqual((len(desk.rules), desk.rules[239], len(desk)), (240, BE_A, 242))
        desk.undo()
        desk.put(0, NEEDS_BC)
        self.assertEqual((desk.rules[0], desk.rules[239]), (NEEDS_BC, SAME_AB))
        self.refused(desk, InvalidIndex, 240, lambda: desk.take(240))
        self.assertEqual(desk.as_panel(), Panel(ABC, (NEEDS_BC,) + (SAME_AB,) * 239))


class PromiseTest(DeskTest):
    def test_each_kind_against_search(self):
        some = all_rules(ABC)
        promises = [("loose", name) for name in ABC] + [("one piece",)]
        promises += [("many", many) for many in (0, 1, 2, 5, 8, 9)]
        promises += [("good", setting) for setting in all_settings(ABC)] + [("implies", rule) for rule in some[::5]]
        panels = [()] + [(rule,) for rule in some[::3]] + [(one, two) for one in some[::7] for two in some[3::11]]
        panels += [(SAME_AB, BE_A), (BE_A, NOT_A), (SAME_AB, ("unlike", "b", "c")), (NEEDS_AB, NEEDS_BC)]
        met = {}
        for rules in panels:
            desk = made(rules)
            for promise in promises:
                holds = promise_plainly(Panel(ABC, rules), promise)
                met.setdefault(promise[0], set()).add(holds)
                if holds:
                    self.assertIsNone(desk.promise(promise))
                    self.assertIs(desk.promises[-1], promise)
                    desk.undo()
                else:
                    self.refused(desk, Broken, 0, lambda: desk.promise(promise))
        self.assertEqual(met, {word: {True, False} for word in ("loose", "one piece", "many", "good", "implies")})

    def test_without_a_good_setting(self):
        desk = made((BE_A, NOT_A))
        for promise in (("loose", "a"), ("one piece",), ("many", 0), ("implies", SAME_AB), ("implies", NEEDS_BC)):
            desk.promise(promise)
        self.refused(desk, Broken, 5, lambda: desk.promise(("many", 1)), lambda: desk.promise(("good", "+++")))

    def test_no_promises(self):
        desk = made((NEEDS_AB,), (("many", 1),))
        odd = [(word, value) for word in ("loose", "one piece", "good", "implies") for value in odd_values()]
        odd += [("many", value) for value in NO_NUMBERS] + [(AlwaysEqual(), "a"), (NeverAnswers(), NeverAnswers())]
        for value in odd_values() + NO_PROMISES + odd:
            self.refused(desk, InvalidPromise, value, lambda: desk.promise(value), lambda: desk.promise(promise=value))

    def test_no_setting_and_one_that_is_not_good(self):
        desk = made((NEEDS_AB,))
        self.refused(desk, Broken, 0, lambda: desk.promise(("good", "+-+")))
        wrong = ("good", "+-")
        self.refused(desk, InvalidPromise, wrong, lambda: desk.promise(wrong))

    def test_the_same_once_more(self):
        desk = Desk(ABC)
        promise = ("many", 2)
        for many in range(1, 60):
            desk.promise(promise=promise)
            self.assertEqual((desk.promises, len(desk)), ((promise,) * many, many))
        self.refused(desk, Broken, 59, lambda: desk.promise(("many", 9)))

    def test_many_promises(self):
        desk = Desk(TEN)
        promises = [("good", setting) for setting in all_settings(TEN)[::4]] + [("loose", name) for name in TEN]
        for promise in promises:
            desk.promise(promise)
        self.assertEqual(desk.promises, tuple(promises))
        self.refused(desk, Broken, 0, lambda: desk.put(0, ("be", ("j", "-"))))
        self.refused(desk, Broken, 1, lambda: desk.put(0, ("either", ("j", "-"), ("c", "+"))))
        self.refused(desk, Broken, len(promises), lambda: desk.promise(("many", 1025)))

    def test_lift(self):
        promises = (("many", 1), ("one piece",), ("many", 1), ("good", "+++"))
        for index in range(4):
            desk = made((), promises)
            self.assertIsNone(desk.lift(index) if index % 2 else desk.lift(index=index))
            self.assertEqual(desk.promises, promises[:index] + promises[index + 1:])
            self.assertEqual(len(desk), 5)
        desk = made((), promises)
        self.refused(desk, InvalidIndex, 4, lambda: desk.lift(4))
        empty = made((NEEDS_AB,))
        self.refused(empty, InvalidIndex, 0, lambda: empty.lift(0))

    def test_lifted_promises_bind_no_more(self):
        desk = made((), (("many", 8), ("good", "---")))
        self.refused(desk, Broken, 0, lambda: desk.put(0, BE_A))
        desk.lift(0)
        self.refused(desk, Broken, 0, lambda: desk.put(0, BE_A))
        desk.lift(0)
        desk.put(0, BE_A)
        self.assertEqual((desk.rules, desk.promises, len(desk)), ((BE_A,), (), 5))


class BrokenTest(DeskTest):
    def test_first_promise_that_does_not_hold(self):
        desk = made((), (("many", 2), ("loose", "a"), ("good", "-++"), ("loose", "a"), ("many", 5)))
        self.refused(desk, Broken, 1, lambda: desk.put(0, BE_A))
        self.refused(desk, Broken, 4, lambda: desk.put(index=0, rule=("be", C)))
        self.refused(desk, Broken, 2, lambda: desk.put(0, ("either", A, ("b", "-"))))
        desk = made((("be", B), ("be", C)), (("many", 2), ("good", "+++")))
        self.refused(desk, Broken, 0, lambda: desk.put(0, BE_A), lambda: desk.put(0, NOT_A))

    def test_put_breaks_each_kind(self):
        for promise, rule in [
            (("loose", "b"), SAME_AB), (("one piece",), SAME_AB), (("many", 5), BE_A), (("good", "+-+"), NEEDS_AB),
        ]:
            desk = made((), (("many", 0), promise))
            self.refused(desk, Broken, 1, lambda: desk.put(0, rule))
            desk.put(0, ("either", A, C))
            self.refused(desk, Broken, 1, lambda: desk.put(1, rule), lambda: desk.put(0, rule))

    def test_take_breaks_promises(self):
        for rules, promise, index in [
            ((NEEDS_AB, NEEDS_BC), ("implies", ("needs", A, C)), 0), ((BE_A, NOT_A), ("loose", "a"), 1),
            ((SAME_AB, BE_A), ("one piece",), 1), ((SAME_AB, BE_A), ("implies", ("be", B)), 0),
            ((SAME_AB, BE_A, NOT_A), ("loose", "b"), 2),
        ]:
            desk = made(rules, (("many", 0), promise))
            self.refused(desk, Broken, 1, lambda: desk.take(index), lambda: desk.take(index=index))

    def test_index_and_rule_ahead_of_broken(self):
        desk = made((BE_A,), (("implies", BE_A),))
        self.refused(desk, InvalidIndex, 1, lambda: desk.take(1))
        self.refused(desk, InvalidIndex, 2, lambda: desk.put(2, NOT_A))
        wrong = ("be", ("d", "+"))
        self.refused(desk, InvalidRule, wrong, lambda: desk.put(0, wrong))
        self.refused(desk, Broken, 0, lambda: desk.take(0))
        desk.put(0, NOT_A)
        self.assertEqual(desk.rules, (NOT_A, BE_A))

    def test_rules_and_then_others(self):
        desk = made((BE_A,), (("good", "+++"),))
        self.refused(desk, Broken, 0, lambda: desk.put(1, ("unlike", "a", "b")))
        desk.put(1, SAME_AB)
        desk.take(0)
        desk.promise(("good", "--+"))
        self.refused(desk, Broken, 1, lambda: desk.put(0, BE_A))
        self.refused(desk, Broken, 0, lambda: desk.put(0, ("bars", A, B)))


class UndoTest(DeskTest):
    def test_each_kind_of_change(self):
        desk = Desk(ABC)
        changes = [
            lambda: desk.put(0, NEEDS_AB), lambda: desk.promise(("many", 2)), lambda: desk.put(0, SAME_AB),
            lambda: desk.promise(("good", "+++")), lambda: desk.take(1), lambda: desk.lift(0),
            lambda: desk.put(1, ("be", C)), lambda: desk.lift(0), lambda: desk.take(0),
        ]
        line = [shown(desk)]
        for change in changes:
            self.assertIsNone(change())
            line.append(shown(desk))
        self.assertEqual([told[3] for told in line], list(range(10)))
        for before in reversed(line[:-1]):
            self.assertIsNone(desk.undo())
            self.assertEqual(shown(desk), before)
        for _ in range(3):
            self.assertRaises(NothingToUndo, desk.undo)
            self.assertEqual(shown(desk), line[0])
        desk.put(0, BE_A)
        self.assertEqual((desk.rules, len(desk)), ((BE_A,), 1))

    def test_undone_changes_are_gone(self):
        desk = made((NEEDS_AB, NEEDS_BC))
        desk.undo()
        desk.promise(("many", 3))
        desk.undo()
        desk.undo()
        self.assertEqual(shown(desk), shown(Desk(ABC)))
        self.assertRaises(NothingToUndo, desk.undo)

    def test_what_is_refused_cannot_be_undone(self):
        desk = made((), (("many", 8),))
        self.assertRaises(Broken, desk.put, 0, BE_A)
        self.assertRaises(Broken, desk.promise, ("many", 9))
        self.assertEqual(len(desk), 1)
        desk.undo()
        self.assertRaises(NothingToUndo, desk.undo)

    def test_promises_bind_again_behind_undo(self):
        desk = made((), (("many", 8),))
        desk.lift(0)
        desk.put(0, BE_A)
        desk.undo()
        desk.undo()
        self.refused(desk, Broken, 0, lambda: desk.put(0, BE_A))


class WalkTest(DeskTest):
    """Long rows of changes taken by chance, against a plain desk that is led along."""

    def test_walks(self):
        chance = random.Random(11)
        for switches in (("b", "a"), ABC, ABC, ("d", "a", "c")):
            for _ in range(6):
                self.walk(chance, switches)

    def walk(self, chance, switches):
        desk, line = Desk(switches), [((), ())]
        rules, settings = all_rules(switches), all_settings(switches)
        for _ in range(60):
            old_rules, old_promises = line[-1]
            kind = chance.choice(["put", "put", "put", "take", "promise", "promise", "promise", "lift", "undo"])
            index = chance.randrange(4)
            if kind == "undo":
                if len(line) == 1:
                    self.assertRaises(NothingToUndo, desk.undo)
                else:
                    desk.undo()
                    line.pop()
            elif kind == "put":
                rule = chance.choice(rules)
                self.step(desk, line, switches, lambda: desk.put(index, rule), index <= len(old_rules), index,
                          (old_rules[:index] + (rule,) + old_rules[index:], old_promises))
            elif kind == "take":
                self.step(desk, line, switches, lambda: desk.take(index), index < len(old_rules), index,
                          (old_rules[:index] + old_rules[index + 1:], old_promises))
            elif kind == "lift":
                self.step(desk, line, switches, lambda: desk.lift(index), index < len(old_promises), index,
                          (old_rules, old_promises[:index] + old_promises[index + 1:]))
            else:
                promise = chance.choice([
                    ("loose", chance.choice(switches)), ("one piece",), ("many", chance.randrange(10)),
                    ("good", chance.choice(settings)), ("implies", chance.choice(rules)),
                ])
                self.step(desk, line, switches, lambda: desk.promise(promise), True, None,
                          (old_rules, old_promises + (promise,)))
            self.assertEqual((desk.rules, desk.promises, len(desk)), (*line[-1], len(line) - 1))
            panel = Panel(switches, desk.rules)
            self.assertEqual(desk.as_panel(), panel)
            self.assertTrue(all(promise_plainly(panel, promise) for promise in desk.promises))

    def step(self, desk, line, switches, call, is_index, index, wanted):
        rules, promises = wanted
        broken = [at for at, promise in enumerate(promises) if not promise_plainly(Panel(switches, rules), promise)]
        if not is_index:
            self.refused(desk, InvalidIndex, index, call)
        elif broken:
            self.refused(desk, Broken, broken[0], call)
        else:
            self.assertIsNone(call())
            line.append(wanted)


class TrialTest(DeskTest):
    def desk(self):
        return made((NEEDS_AB, NEEDS_BC), (("many", 3),))

    def untouched(self, desk):
        self.assertEqual(shown(desk), shown(self.desk()))
        self.assertEqual(led_back(desk), [((NEEDS_AB, NEEDS_BC), ()), ((NEEDS_AB,), ()), ((), ())])

    def change(self, desk):
        desk.undo()
        desk.put(0, BE_A)
        desk.take(1)
        desk.promise(("implies", BE_A))
        desk.promise(("one piece",))
        desk.lift(0)

    def test_rows_that_end(self):
        desk = self.desk()
        with desk.trial() as told:
            self.assertIs(told, desk)
            self.assertEqual(shown(desk), shown(self.desk()))
            self.change(desk)
            self.assertEqual((desk.rules, desk.promises, len(desk)), ((BE_A, NEEDS_BC), (("one piece",),), 7))
        self.untouched(desk)

    def test_undone_to_the_beginning(self):
        desk = self.desk()
        with desk.trial():
            for _ in range(3):
                desk.undo()
            self.assertRaises(NothingToUndo, desk.undo)
        self.untouched(desk)

    def test_rows_that_raise_return_and_break(self):
        for error in (ValueError(), Broken(1), KeyboardInterrupt(), StopIteration()):
            desk = self.desk()
            with self.assertRaises(type(error)) as caught:
                with desk.trial():
                    self.change(desk)
                    raise error
            self.assertIs(caught.exception, error)
            self.untouched(desk)
        desk = self.desk()

        def left():
            with desk.trial():
                self.change(desk)
                return len(desk)

        self.assertEqual(left(), 7)
        self.untouched(desk)
        while True:
            with desk.trial():
                self.change(desk)
                break
        self.untouched(desk)
        with self.assertRaises(Broken):
            with desk.trial():
                desk.put(0, BE_A)
                desk.put(0, NOT_A)
        self.untouched(desk)

    def test_nothing_happens_before_it_is_entered(self):
        desk = self.desk()
        trial = desk.trial()
        desk.put(0, ("be", C))
        with trial:
            desk.undo()
            desk.undo()
        self.assertEqual((desk.rules, len(desk)), ((("be", C), NEEDS_AB, NEEDS_BC), 4))

    def test_trials_in_trials_also_the_same_one(self):
        for enter in (lambda desk, trial: desk.trial(), lambda desk, trial: trial):
            desk = self.desk()
            trial = desk.trial()
            for _ in range(2):
                with enter(desk, trial):
                    self.change(desk)
                    before = shown(desk)
                    with enter(desk, trial) as told:
                        self.assertIs(told, desk)
                        desk.undo()
                        desk.undo()
                        with self.assertRaises(KeyError):
                            with enter(desk, trial):
                                desk.undo()
                                raise KeyError
                        self.assertEqual(len(desk), 5)
                    self.assertEqual(shown(desk), before)
                    desk.undo()
                self.untouched(desk)

    def test_many_deep(self):
        desk = Desk(ABC)
        trial = desk.trial()
        with contextlib.ExitStack() as stack:
            for number in range(200):
                stack.enter_context(trial)
                desk.put(0, NEEDS_AB)
                stack.callback(lambda number=number: self.assertEqual(len(desk.rules), number + 1))
        self.assertEqual(shown(desk), shown(Desk(ABC)))

    def test_of_several_desks(self):
        one, two = self.desk(), made((SAME_AB,))
        with one.trial(), two.trial():
            self.change(one)
            two.take(0)
            one.put(0, SAME_AB)
        self.untouched(one)
        self.assertEqual(shown(two), shown(made((SAME_AB,))))

    def test_desks_and_panels_do_not_share(self):
        one, two = Desk(ABC), Desk(ABC)
        panel = one.as_panel()
        one.put(0, BE_A)
        one.promise(("implies", BE_A))
        self.assertEqual(panel.rules, ())
        self.assertEqual(shown(two), shown(Desk(ABC)))


class TriedTest(DeskTest):
    def test_returns_what_act_returns(self):
        desk = made((NEEDS_AB,))
        for value in odd_values():
            self.assertIs(tried(desk, lambda told: value), value)
        self.assertIs(tried(desk, lambda told: told), desk)
        self.assertIs(tried(act=lambda told: told, desk=desk), desk)

    def test_within_a_trial(self):
        desk = made((NEEDS_AB,), (("many", 2),))

        def act(told):
            told.put(1, NEEDS_BC)
            inner = tried(told, lambda told: (told.lift(0), told.promises)[1])
            return (inner, told.rules, told.promises)

        self.assertEqual(tried(desk, act), ((), (NEEDS_AB, NEEDS_BC), (("many", 2),)))
        self.assertEqual(shown(desk), shown(made((NEEDS_AB,), (("many", 2),))))

    def test_errors_go_on(self):
        for error in (KeyError("x"), NothingToUndo(), KeyboardInterrupt()):
            desk = made((NEEDS_AB,))

            def act(told):
                told.take(0)
                raise error

            with self.assertRaises(type(error)) as caught:
                tried(desk, act)
            self.assertIs(caught.exception, error)
            self.assertEqual(shown(desk), shown(made((NEEDS_AB,))))
        with self.assertRaises(Broken):
            tried(desk, lambda told: (told.take(0), told.promise(("implies", NEEDS_AB))))
        self.assertEqual(shown(desk), shown(made((NEEDS_AB,))))


if __name__ == "__main__":
    unittest.main()
