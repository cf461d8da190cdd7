"""PROGRAMS that are CUT AHEAD of a STEP."""

from forkjoins.errors import NoStep
from forkjoins.ways import at_way, put_at


def cut_ahead(program, way):
    """The PROGRAM that is left, CUT AHEAD of the STEP that a WAY, any thing, leads to; or NoStep."""
    at_way(program, way)
    if len(way) % 2 == 0:
        raise NoStep("way")
    home = way[:-1]
    left = at_way(program, home)[:way[-1]]
    # Out of each "if", for what stands behind it goes, too; whoever forked goes on.
    while home and at_way(program, home[:-1])[0] == "if":
        around = at_way(program, home[:-2])
        left = put_at(around[:home[-2] + 1], home[-2:], left)
        home = home[:-2]
    return put_at(program, home, left)
