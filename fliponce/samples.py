"""Panels to try the program with."""

from fliponce.panels import Panel

CHAIN = """switches a, b, c
needs +a +b
needs +b +c"""

SHED = """switches pump, valve, lamp, door
be +lamp
either +pump -valve
needs +pump +valve
bars +door +pump
same pump door
unlike lamp door"""


def chain():
    """A chain of needs: the first switch needs the second one, and this the third one."""
    return Panel.read(CHAIN)


def shed():
    """A panel with a rule of each kind."""
    return Panel.read(SHED)
