import contextlib
import inspect
import random
import unittest

from fliponce.errors import Busy, InvalidDeeds, InvalidSetting, NotAPanel, NothingToUndo, Refused
from fliponce.led import Board, attempt
from fliponce.panels import Panel
from plain import behind_flip, broken_plainly, good_settings, panels_to_try
from values import AlwaysEqual, NeverAnswers, odd_values

CHAIN = Panel.read("switches a, b, c\nneeds +a +b\nneeds +b +c")
TIED = Panel.read("switches a, b, c\nsame a b\neither +b +c")
NONE = Panel.read("switches a\nbe +a\nbe -a")
NO_DEEDS = ["", "d", "ab", "A", "a ", "+", "be", ("a",), ["a"], ("a", "+"), b"a", "a" * 10000, CHAIN]


class Odd(Exception):
    """An error of a user."""


def shown(board):
    return (board.panel.text(), board.setting, board.log, board.busy, len(board), bool(board))


def rest(board):
    """All that a board may still take back, told by a copy that is led back."""
    told = []
    with board.trial():
        while len(board):
            board.undo()
            told.append((board.setting, board.log))
    return told


class BoardTest(unittest.TestCase):
    def test_new(self):
        for board in (Board(CHAIN, "---"), Board(panel=CHAIN, setting="---"), Board(setting="---", panel=CHAIN)):
            self.assertIs(board.panel, CHAIN)
            self.assertEqual(board.setting, "---")
            self.assertEqual(board.log, ())
            self.assertIs(board.busy, False)
            self.assertEqual(len(board), 0)
            self.assertIs(bool(board), False)
            self.assertLessEqual({"panel", "setting", "log", "busy"}, set(vars(board)))

    def test_wrong_panel_and_setting(self):
        for value in odd_values() + [CHAIN.text(), "---"]:
            for call in (
                lambda: Board(value, "---"), lambda: Board(value, value), lambda: Board(setting="---", panel=value),
            ):
                with self.assertRaises(NotAPanel) as caught:
                    call()
                self.assertIs(caught.exception.value, value)
        for value in odd_values() + ["", "--", "----", "+--", "++-", "abc", ("-", "-", "-"), ["-"], b"---"]:
            for call in (lambda: Board(CHAIN, value), lambda: Board(panel=CHAIN, setting=value)):
                with self.assertRaises(InvalidSetting) as caught:
                    call()
                self.assertIs(caught.exception.value, value)
        self.assertRaises(InvalidSetting, Board, NONE, "+")

    def test_equal_to_itself_alone(self):
        one, two = Board(CHAIN, "---"), Board(CHAIN, "---")
        self.assertTrue(one == one)
        self.assertTrue(one != two)
        self.assertFalse(one == CHAIN)

    def test_names(self):
        names = {
            Board: ["panel", "setting"], Board.do: ["self", "deed"], Board.do_all: ["self", "deeds", "watch"],
            Board.undo: ["self"], Board.trial: ["self"], attempt: ["board", "act"],
        }
        for question, wanted in names.items():
            self.assertEqual(list(inspect.signature(question).parameters), wanted)
        watch = inspect.signature(Board.do_all).parameters["watch"]
        self.assertEqual((watch.kind, watch.default), (watch.KEYWORD_ONLY, None))
        self.assertLessEqual({"do", "do_all", "undo", "trial", "__len__"}, set(vars(Board)))


class DoTest(unittest.TestCase):
    def test_against_search(self):
        refused = 0
        for panel in panels_to_try():
            for setting in good_settings(panel):
                for name in panel.switches:
                    board = Board(panel, setting)
                    there = behind_flip(panel, setting, name)
                    broken = broken_plainly(panel, there)
                    if not broken:
                        self.assertIsNone(board.do(name))
                        self.assertEqual(shown(board), (panel.text(), there, (name,), False, 1, True))
                        continue
                    refused += 1
                    with self.assertRaises(Refused) as caught:
                        board.do(name)
                    self.assertEqual(caught.exception.rule, broken[0])
                    self.assertEqual(shown(board), (panel.text(), setting, (), False, 0, False))
        self.assertGreater(refused, 500)

    def test_first_rule_that_would_break(self):
        panel = Panel.read("switches a, b, c\nneeds +c +a\nneeds +a +b\nbars +a +c\nneeds +a +b")
        for setting, deed, rule in (("---", "a", 1), ("-+-", "c", 0), ("++-", "b", 1), ("++-", "c", 2)):
            with self.assertRaises(Refused) as caught:
                Board(panel, setting).do(deed)
            self.assertEqual(caught.exception.rule, rule)

    def test_no_deeds(self):
        board = Board(CHAIN, "---")
        board.do("c")
        before = shown(board)
        for value in odd_values() + NO_DEEDS:
            for call in (lambda: board.do(value), lambda: board.do(deed=value)):
                with self.assertRaises(InvalidDeeds) as caught:
                    call()
                self.assertEqual(caught.exception.index, 0)
                self.assertIs(type(caught.exception.index), int)
            self.assertEqual(shown(board), before)

    def test_by_name(self):
        board = Board(CHAIN, "---")
        self.assertIsNone(board.do(deed="c"))
        self.assertEqual(board.log, ("c",))

    def test_panel_and_setting_passed_stay(self):
        text = CHAIN.text()
        board = Board(CHAIN, "---")
        board.do_all(("c", "b", "a"))
        self.assertEqual(CHAIN.text(), text)
        self.assertEqual(board.setting, "+++")


class UndoTest(unittest.TestCase):
    def test_to_the_beginning_and_once_more(self):
        board = Board(CHAIN, "---")
        board.do("c")
        board.do_all(("b", "a"))
        board.do("a")
        self.assertEqual(board.log, ("c", "b", "a", "a"))
        for setting, log in [("+++", ("c", "b", "a")), ("-++", ("c", "b")), ("--+", ("c",)), ("---", ())]:
            self.assertIsNone(board.undo())
            self.assertEqual((board.setting, board.log, len(board)), (setting, log, len(log)))
        for _ in range(3):
            self.assertRaises(NothingToUndo, board.undo)
            self.assertEqual(shown(board), (CHAIN.text(), "---", (), False, 0, False))
        board.do("c")
        self.assertEqual((board.setting, board.log), ("--+", ("c",)))

    def test_a_refused_deed_leaves_nothing_to_undo(self):
        board = Board(CHAIN, "---")
        self.assertRaises(Refused, board.do, "a")
        self.assertRaises(Refused, board.do_all, ("c", "a"))
        self.assertRaises(NothingToUndo, board.undo)

    def test_walks(self):
        chance = random.Random(5)
        for panel in panels_to_try()[::4]:
            good = good_settings(panel)
            if not good:
                continue
            board = Board(panel, chance.choice(good))
            line = [board.setting]
            for _ in range(40):
                if len(line) > 1 and chance.random() < 0.4:
                    board.undo()
                    line.pop()
                else:
                    name = chance.choice(panel.switches)
                    there = behind_flip(panel, line[-1], name)
                    if there in good:
                        board.do(name)
                        line.append(there)
                    else:
                        self.assertRaises(Refused, board.do, name)
                self.assertEqual(board.setting, line[-1])
                self.assertEqual(len(board), len(line) - 1)
                self.assertEqual(len(board.log), len(line) - 1)


class DoAllTest(unittest.TestCase):
    def board(self):
        board = Board(CHAIN, "-++")
        board.do("b")
        return board

    def test_all_done(self):
        board = self.board()
        self.assertIsNone(board.do_all(("b", "a", "a", "b", "c")))
        self.assertEqual(shown(board), (CHAIN.text(), "---", ("b", "b", "a", "a", "b", "c"), False, 6, True))
        board.undo()
        self.assertEqual((board.setting, board.log), ("--+", ("b", "b", "a", "a", "b")))
        board.do_all(deeds=("c", "c"), watch=None)
        self.assertEqual((board.setting, len(board)), ("--+", 7))

    def test_the_empty_tuple(self):
        board = self.board()
        seen = []
        self.assertIsNone(board.do_all((), watch=lambda *told: seen.append(told)))
        self.assertEqual((shown(board), seen), (shown(self.board()), []))

    def test_no_tuple(self):
        board = self.board()
        odd = [value for value in odd_values() if not isinstance(value, tuple)]
        for value in odd + ["", "b", "ba", ["b"], {"b": 1}]:
            seen = []
            for call in (
                lambda: board.do_all(value), lambda: board.do_all(deeds=value),
                lambda: board.do_all(value, watch=lambda *told: seen.append(told)),
            ):
                with self.assertRaises(InvalidDeeds) as caught:
                    call()
                self.assertIsNone(caught.exception.index)
            self.assertEqual((shown(board), seen), (shown(self.board()), []))

    def test_no_deed_at_each_place(self):
        deeds = ("b", "a", "a", "b", "c")
        for index in range(len(deeds)):
            for value in odd_values() + NO_DEEDS:
                board, seen = self.board(), []
                row = deeds[:index] + (value,) + deeds[index + 1:]
                with self.assertRaises(InvalidDeeds) as caught:
                    board.do_all(row, watch=lambda board, at: seen.append(at))
                self.assertEqual(caught.exception.index, index)
                self.assertEqual(seen, list(range(index)))
                self.assertEqual(shown(board), shown(self.board()))
                self.assertEqual(rest(board), [("-++", ())])

    def test_a_refused_deed_at_each_place(self):
        deeds = ("b", "a", "a", "b", "b")
        for index, deed, rule in [(0, "a", 0), (1, "c", 1), (2, "b", 0), (3, "c", 1), (4, "a", 0)]:
            board, seen = self.board(), []
            row = deeds[:index] + (deed,) + (None, "x")
            with self.assertRaises(Refused) as caught:
                board.do_all(row, watch=lambda board, at: seen.append(at))
            self.assertEqual(caught.exception.rule, rule)
            self.assertEqual(seen, list(range(index)))
            self.assertEqual(shown(board), shown(self.board()))
            self.assertEqual(rest(board), [("-++", ())])

    def test_an_earlier_wrong_one_comes_first(self):
        board = self.board()
        with self.assertRaises(InvalidDeeds) as caught:
            board.do_all(("b", "x", "c"))
        self.assertEqual(caught.exception.index, 1)
        with self.assertRaises(Refused):
            board.do_all(("b", "c", "x"))
        self.assertEqual(shown(board), shown(self.board()))

    def test_odd_elements(self):
        for odd in (AlwaysEqual(), NeverAnswers()):
            with self.assertRaises(InvalidDeeds) as caught:
                self.board().do_all(("b", odd))
            self.assertEqual(caught.exception.index, 1)

    def test_each_setting_and_two_deeds(self):
        for panel in panels_to_try()[::3]:
            good = good_settings(panel)
            for setting in good:
                for one in panel.switches:
                    for two in panel.switches:
                        self.check_two(panel, good, setting, one, two)

    def check_two(self, panel, good, setting, one, two):
        board = Board(panel, setting)
        middle = behind_flip(panel, setting, one)
        end = behind_flip(panel, middle, two)
        if middle in good and end in good:
            board.do_all((one, two))
            self.assertEqual((board.setting, board.log), (end, (one, two)))
            return
        broken = broken_plainly(panel, middle) or broken_plainly(panel, end)
        with self.assertRaises(Refused) as caught:
            board.do_all((one, two))
        self.assertEqual(caught.exception.rule, broken[0])
        self.assertEqual(shown(board), (panel.text(), setting, (), False, 0, False))


class WatchTest(unittest.TestCase):
    def test_what_it_sees(self):
        board = Board(CHAIN, "---")
        seen = []

        def watch(told, index):
            self.assertIs(told, board)
            seen.append((index, board.setting, board.log, board.busy, len(board), bool(board), board.panel))

        board.do("c")
        board.do_all(("b", "a", "a"), watch=watch)
        self.assertEqual(seen, [
            (0, "-++", ("c", "b"), True, 2, True, CHAIN),
            (1, "+++", ("c", "b", "a"), True, 3, True, CHAIN),
            (2, "-++", ("c", "b", "a", "a"), True, 4, True, CHAIN),
        ])
        self.assertIs(board.busy, False)

    def test_what_is_refused_while_at_work(self):
        board = Board(CHAIN, "---")
        asked = []

        def watch(told, index):
            before = shown(board)
            for call in (
                lambda: board.do("a"), lambda: board.do(None), lambda: board.do("c"), lambda: board.do_all(()),
                lambda: board.do_all(None), lambda: board.do_all(("a",), watch=watch), board.undo, board.trial,
                lambda: attempt(board, lambda board: asked.append("act")),
            ):
                with self.assertRaises(Busy):
                    call()
                self.assertEqual(shown(board), before)
            asked.append(index)

        board.do_all(("c", "b"), watch=watch)
        self.assertEqual(asked, [0, 1])
        self.assertEqual((board.setting, board.log, board.busy), ("-++", ("c", "b"), False))

    def test_busy_that_goes_on(self):
        for ask in (
            lambda board: board.do("a"), lambda board: board.do_all(()), lambda board: board.undo(),
            lambda board: board.trial(), lambda board: attempt(board, len),
        ):
            board = Board(CHAIN, "--+")
            self.assertRaises(Busy, board.do_all, ("b", "a"), watch=lambda board, index: ask(board))
            self.assertEqual(shown(board), (CHAIN.text(), "--+", (), False, 0, False))
            board.do("b")
            self.assertEqual(board.log, ("b",))

    def test_raises_at_each_place(self):
        for error in (Odd("x"), ValueError(), KeyError("a"), Busy(), Refused(1), KeyboardInterrupt(), StopIteration(),
                      SystemExit(), GeneratorExit()):
            for place in range(4):
                board = Board(CHAIN, "---")
                board.do("c")
                seen = []

                def watch(board, index):
                    seen.append(index)
                    if index == place:
                        raise error

                with self.assertRaises(type(error)) as caught:
                    board.do_all(("b", "a", "a", "b"), watch=watch)
                self.assertIs(caught.exception, error)
                self.assertEqual(seen, list(range(place + 1)))
                self.assertEqual(shown(board), (CHAIN.text(), "--+", ("c",), False, 1, True))
                self.assertEqual(rest(board), [("---", ())])

    def test_index_of_the_wrong_deed_behind_watched_ones(self):
        board = Board(CHAIN, "---")
        seen = []
        with self.assertRaises(InvalidDeeds) as caught:
            board.do_all(("c", "b", 7, "a"), watch=lambda board, index: seen.append((index, board.setting)))
        self.assertEqual((caught.exception.index, seen), (2, [(0, "--+"), (1, "-++")]))
        self.assertEqual(shown(board), (CHAIN.text(), "---", (), False, 0, False))

    def test_what_it_returns_does_not_matter(self):
        for value in odd_values():
            board = Board(CHAIN, "---")
            self.assertIsNone(board.do_all(("c", "b"), watch=lambda board, index: value))
            self.assertEqual(board.log, ("c", "b"))

    def test_other_boards_meanwhile(self):
        one, two = Board(CHAIN, "---"), Board(CHAIN, "+++")

        def watch(board, index):
            self.assertIs(two.busy, False)
            two.do(("a", "b", "c")[index])

        with self.assertRaises(Refused):
            one.do_all(("c", "b", "b", "b", "c"), watch=lambda board, index: watch(board, index) if index < 3 else None)
        self.assertEqual((one.setting, one.log), ("---", ()))
        self.assertEqual((two.setting, two.log), ("---", ("a", "b", "c")))

    def test_a_board_that_works_within_another_one(self):
        one, two = Board(CHAIN, "---"), Board(CHAIN, "---")
        one.do_all(("c", "b"), watch=lambda board, index: two.do_all(("c", "c"), watch=lambda board, at: one.busy))
        self.assertEqual((one.setting, two.setting, len(two)), ("-++", "---", 4))
        self.assertEqual((one.busy, two.busy), (False, False))


class TrialTest(unittest.TestCase):
    def board(self):
        board = Board(CHAIN, "---")
        board.do_all(("c", "b"))
        return board

    def untouched(self, board):
        self.assertEqual(shown(board), shown(self.board()))
        self.assertEqual(rest(board), [("--+", ("c",)), ("---", ())])

    def test_rows_that_end(self):
        board = self.board()
        with board.trial() as told:
            self.assertIs(told, board)
            self.assertEqual(shown(board), shown(self.board()))
            board.do("a")
            board.undo()
            board.undo()
            board.do_all(("c", "c", "c"))
            self.assertEqual((board.setting, board.log), ("---", ("c", "c", "c", "c")))
        self.untouched(board)

    def test_undone_to_the_beginning(self):
        board = self.board()
        with board.trial():
            board.undo()
            board.undo()
            self.assertRaises(NothingToUndo, board.undo)
        self.untouched(board)

    def test_rows_that_raise(self):
        for error in (Odd(), Refused(0), ValueError(), KeyboardInterrupt(), StopIteration()):
            board = self.board()
            with self.assertRaises(type(error)) as caught:
                with board.trial():
                    board.do("a")
                    raise error
            self.assertIs(caught.exception, error)
            self.untouched(board)
        with self.assertRaises(Refused):
            with board.trial():
                board.undo()
                board.do("a")
        self.untouched(board)

    def test_rows_that_return_break_and_go_on(self):
        board = self.board()

        def left():
            with board.trial():
                board.do("a")
                return board.setting

        self.assertEqual(left(), "+++")
        self.untouched(board)
        for _ in range(3):
            with board.trial():
                board.undo()
                continue
        while True:
            with board.trial():
                board.undo()
                break
        self.untouched(board)

    def test_nothing_happens_before_it_is_entered(self):
        board = self.board()
        trial = board.trial()
        board.do("a")
        with trial:
            board.undo()
            board.undo()
        self.assertEqual((board.setting, board.log), ("+++", ("c", "b", "a")))

    def test_trials_in_trials(self):
        board = self.board()
        with board.trial():
            board.do("a")
            with board.trial():
                board.undo()
                board.undo()
                with self.assertRaises(Odd):
                    with board.trial():
                        board.do_all(("b", "a", "a"))
                        raise Odd
                self.assertEqual((board.setting, board.log), ("--+", ("c",)))
            self.assertEqual((board.setting, board.log), ("+++", ("c", "b", "a")))
            board.undo()
        self.untouched(board)

    def test_the_same_one_twice(self):
        board = self.board()
        trial = board.trial()
        for _ in range(2):
            with trial as told:
                self.assertIs(told, board)
                board.do("a")
            self.untouched(board)
        board.do("a")
        with trial:
            board.undo()
        self.assertEqual((board.setting, len(board)), ("+++", 3))

    def test_the_same_one_within_its_own_rows(self):
        board = self.board()
        trial = board.trial()
        with trial:
            board.do("a")
            with trial as told:
                self.assertIs(told, board)
                board.undo()
                with trial:
                    board.undo()
                    self.assertEqual(board.setting, "--+")
                self.assertEqual((board.setting, board.log), ("-++", ("c", "b")))
            self.assertEqual((board.setting, board.log), ("+++", ("c", "b", "a")))
            board.undo()
            board.undo()
        self.untouched(board)
        with self.assertRaises(Odd):
            with trial:
                with trial:
                    board.do("a")
                    raise Odd
        self.untouched(board)

    def test_many_deep(self):
        board = Board(CHAIN, "---")
        trial = board.trial()
        with contextlib.ExitStack() as stack:
            for number in range(300):
                stack.enter_context(trial)
                board.do("c")
                stack.callback(lambda number=number: self.assertEqual(len(board), number + 1))
        self.assertEqual(shown(board), (CHAIN.text(), "---", (), False, 0, False))

    def test_do_all_within(self):
        board = self.board()
        with board.trial():
            with self.assertRaises(Refused):
                board.do_all(("a", "b"))
            self.assertEqual(shown(board), shown(self.board()))
            board.do_all(("a", "a", "b"))
            self.assertIs(board.busy, False)
        self.untouched(board)

    def test_entered_while_busy(self):
        board = Board(CHAIN, "---")
        trial = board.trial()
        seen = []

        def watch(told, index):
            before = shown(board)
            with trial as told:
                self.assertIs(told, board)
                self.assertRaises(Busy, board.do, "a")
                with trial:
                    self.assertIs(board.busy, True)
                self.assertEqual(shown(board), before)
            self.assertEqual(shown(board), before)
            with self.assertRaises(Odd):
                with trial:
                    raise Odd
            self.assertEqual(shown(board), before)
            seen.append(index)

        board.do_all(("c", "b"), watch=watch)
        self.assertEqual((seen, shown(board)), ([0, 1], (CHAIN.text(), "-++", ("c", "b"), False, 2, True)))
        with trial:
            board.do_all(("a", "a"), watch=watch)
            self.assertEqual(board.log, ("c", "b", "a", "a"))
            with self.assertRaises(InvalidDeeds):
                board.do_all(("a", "x"), watch=watch)
            self.assertEqual(board.log, ("c", "b", "a", "a"))
        self.assertEqual(board.log, ("c", "b"))

    def test_an_error_through_a_trial_and_do_all(self):
        board = self.board()
        trial = board.trial()

        def watch(told, index):
            with trial:
                raise Odd(index)

        with self.assertRaises(Odd) as caught:
            board.do_all(("a", "a"), watch=watch)
        self.assertEqual(caught.exception.args, (0,))
        self.untouched(board)

    def test_of_several_boards(self):
        one, two = self.board(), Board(CHAIN, "+++")
        with one.trial(), two.trial():
            one.do("a")
            two.do("a")
        self.untouched(one)
        self.assertEqual((two.setting, two.log), ("+++", ()))


class AttemptTest(unittest.TestCase):
    def test_returns_what_act_returns(self):
        board = Board(CHAIN, "---")
        board.do("c")
        for value in odd_values():
            self.assertIs(attempt(board, lambda told: value), value)
        self.assertIs(attempt(board, lambda told: told), board)
        self.assertIs(attempt(act=lambda told: told, board=board), board)

    def test_within_a_trial(self):
        board = Board(CHAIN, "---")
        board.do("c")

        def act(told):
            told.do_all(("b", "a"))
            return (attempt(told, lambda told: (told.undo(), told.setting)[1]), told.setting, told.log)

        self.assertEqual(attempt(board, act), ("-++", "+++", ("c", "b", "a")))
        self.assertEqual(shown(board), (CHAIN.text(), "--+", ("c",), False, 1, True))

    def test_errors_go_on(self):
        for error in (Odd(), NothingToUndo(), KeyError("x"), KeyboardInterrupt()):
            board = Board(CHAIN, "---")

            def act(told):
                told.do("c")
                raise error

            with self.assertRaises(type(error)) as caught:
                attempt(board, act)
            self.assertIs(caught.exception, error)
            self.assertEqual(shown(board), (CHAIN.text(), "---", (), False, 0, False))

    def test_of_tied_switches(self):
        board = Board(TIED, "+++")
        with self.assertRaises(Refused) as caught:
            attempt(board, lambda told: told.do("b"))
        self.assertEqual(caught.exception.rule, 0)
        self.assertEqual(attempt(board, lambda told: (told.do("c"), told.setting)[1]), "++-")


if __name__ == "__main__":
    unittest.main()
