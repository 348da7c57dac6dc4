"""Boards: a panel with a setting that is led flip by flip."""

from fliponce.errors import Busy, InvalidDeeds, NothingToUndo, Refused
from fliponce.moving import flipped
from fliponce.panels import check_panel
from fliponce.settings import broken_rules, check_setting
from fliponce.shapes import is_switch


def check_idle(board):
    """Raise Busy for a board that is at work."""
    if board.busy:
        raise Busy()


def do_deed(board, deed, index):
    """Do a deed, the one with this index of those that are to be done."""
    if not is_switch(board.panel.switches, deed):
        raise InvalidDeeds(index)
    there = flipped(board.panel, board.setting, deed)
    breaks = broken_rules(board.panel, there)
    if len(breaks) > 0:
        raise Refused(breaks[0])
    board.setting = there
    board.log = board.log + (deed,)


class BoardThen:
    """What a board was when a trial was entered, on top of what it was when the trial was entered before."""

    def __init__(self, board, below):
        self.setting = board.setting
        self.log = board.log
        self.below = below


class BoardTrial:
    """Rows behind which a board is again what it was."""

    def __init__(self, board):
        self.board = board
        # The same trial may be entered again within its own rows, so there may be several to go back to.
        self.then = None

    def __enter__(self):
        self.then = BoardThen(self.board, self.then)
        return self.board

    def __exit__(self, *told):
        self.board.setting = self.then.setting
        self.board.log = self.then.log
        self.then = self.then.below


class Board:
    """A panel and its setting now, which deeds alter: the names of switches that are flipped."""

    def __init__(self, panel, setting):
        check_panel(panel)
        check_setting(panel, setting)
        self.panel = panel
        self.setting = setting
        self.log = ()
        self.busy = False

    def __len__(self):
        return len(self.log)

    def do(self, deed):
        """Do a deed."""
        check_idle(self)
        do_deed(self, deed, 0)

    def do_all(self, deeds, *, watch=None):
        """Do all deeds or none; behind each one, watch is called with the board and its index."""
        check_idle(self)
        if not isinstance(deeds, tuple):
            raise InvalidDeeds(None)
        setting, log = self.setting, self.log
        self.busy = True
        try:
            for index, deed in enumerate(deeds):
                do_deed(self, deed, index)
                if watch is not None:
                    watch(self, index)
            # All is done and stays; any error has left these as they were at the beginning.
            setting, log = self.setting, self.log
        finally:
            self.setting, self.log, self.busy = setting, log, False

    def undo(self):
        """Take back the last deed."""
        check_idle(self)
        if len(self.log) == 0:
            raise NothingToUndo()
        self.setting = flipped(self.panel, self.setting, self.log[-1])
        self.log = self.log[:-1]

    def trial(self):
        """An object for with, behind whose rows the board is again what it was."""
        check_idle(self)
        return BoardTrial(self)


def attempt(board, act):
    """What act returns for the board, which is again what it was behind that."""
    with board.trial() as tried:
        return act(tried)
