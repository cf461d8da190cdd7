"""A second telling of [49] to [53], for tests: by the POINTS and LINKS of the DIAGRAM."""

from tests.diagrams import ahead_in, links_in
from tests.things import same

WRITING = ("write", "add", "put", "take", "row")
ACCESSES = ("read", "has") + WRITING


class Scene:
    """The EVENTS of a DIAGRAM: their POINTS, which MEET, which RACE, which are NEXT BEHIND which."""

    def __init__(self, drawn):
        self.drawn = drawn
        self.points, self.noted, self.many = {}, {}, {}
        for path, noted in drawn:
            kept = [(place, event) for place, event in enumerate(noted)
                    if event[0] in ACCESSES + ("fork", "join") and event != ("join", None)]
            self.many[path] = len(kept)
            for n, (place, event) in enumerate(kept):
                self.points[(path, n)] = (path, place)
                self.noted[(path, n)] = event
        self.accesses = sorted(name for name in self.noted if self.noted[name][0] in ACCESSES)
        self.meetings = [(one, other) for one in self.accesses for other in self.accesses if self.meet(one, other)]
        self.links = links_in(drawn)
        self.nexts = {name: self.events_behind(self.points[name]) for name in self.points}

    def meet(self, one, other):
        words = [self.noted[name][0] for name in (one, other)]
        cells = {self.noted[name][1] for name in (one, other)}
        return one < other and one[0] != other[0] and len(cells) == 1 and any(word in WRITING for word in words)

    def races(self):
        ahead = ahead_in(self.drawn)
        return tuple((one, other) for one, other in self.meetings
                     if (self.points[one], self.points[other]) not in ahead
                     and (self.points[other], self.points[one]) not in ahead)

    def events_behind(self, point):
        """The names of those EVENTS that one comes to over POINTS of no EVENT alone."""
        names = {here: name for name, here in self.points.items()}
        found = set()
        for one, other in self.links:
            if one == point:
                found |= {names[other]} if other in names else self.events_behind(other)
        return found

    def is_name(self, thing):
        return any(same(thing, name) for name in self.points)

    def verdict(self, thing):
        """True, False, or the refusal."""
        if type(thing) is tuple and len(thing) == 4 and same(thing[0], "race"):
            return self.race_verdict(*thing[1:])
        if type(thing) is tuple and len(thing) == 2 and same(thing[0], "free") and type(thing[1]) is tuple:
            return self.free_verdict(thing[1])
        return ("NoPaper", "shape", -1)

    def race_verdict(self, one, other, cut):
        for word, thing in (("one", one), ("other", other)):
            if not any(same(thing, name) for name in self.accesses):
                return ("NoPaper", word, -1)
        if (one, other) not in self.meetings:
            return ("NoPaper", "meet", -1)
        if not self.is_cut(cut):
            return ("NoPaper", "cut", -1)
        inside = {(path, n) for path, many in cut for n in range(many)}
        leaving = {behind for name in self.points if name not in inside for behind in self.nexts[name]}
        for k, (path, many) in enumerate(cut):
            if leaving & {(path, n) for n in range(many)}:
                return ("NoPaper", "open", k)
        if (inside | leaving) & {one, other}:
            return ("NoPaper", "next", -1)
        return False

    def is_cut(self, cut):
        if type(cut) is not tuple or len(cut) != len(self.many):
            return False
        for pair, path in zip(cut, sorted(self.many)):
            if type(pair) is not tuple or len(pair) != 2 or not same(pair[0], path):
                return False
            if type(pair[1]) is not int or pair[1] not in range(self.many[path] + 1):
                return False
        return True

    def free_verdict(self, chains):
        if len(chains) != len(self.meetings):
            return ("NoPaper", "many", -1)
        for k, (pair, chain) in enumerate(zip(self.meetings, chains)):
            if type(chain) is not tuple or not chain or not all(self.is_name(name) for name in chain):
                return ("NoPaper", "chain", k)
            if sorted((chain[0], chain[-1])) != sorted(pair):
                return ("NoPaper", "chain", k)
            if any(behind not in self.nexts[near] for near, behind in zip(chain, chain[1:])):
                return ("NoPaper", "chain", k)
        return True
