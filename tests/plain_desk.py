"""The words of [124], read plainly: a desk over copies of the whole heap."""

from plain import plain_copy
from plain_courses import plain_walk
from plain_times import plain_since, plain_times, plain_unlike


class PlainDesk:
    def __init__(self, wide):
        self.wide = wide
        self.story = []
        self.heaps = [((None,) * wide,)]
        self.at = 0

    def led(self, way):
        """("value", what) or ("nothing", at)."""
        return plain_walk(self.heaps[self.at], way)

    def wrong(self, way, record=False):
        kind, told = self.led(way)
        if kind == "nothing":
            return "nothing at " + str(told)
        return "no record" if record and not isinstance(told, tuple) else None

    def deed(self, changes):
        self.heaps.append(plain_copy(self.heaps[self.at], changes))
        self.story.append((self.at, changes))
        self.at = len(self.story)
        return "version " + str(self.at)

    def change(self, way, values, make):
        """values: None, numbers, or lists for ways."""
        for told in [way[:-1]] + [value for value in values if isinstance(value, list)]:
            if self.wrong(tuple(told), True):
                return self.wrong(tuple(told), True)
        held = tuple(self.led(tuple(value))[1] if isinstance(value, list) else value for value in values)
        record = self.led(way[:-1])[1][1]
        if make:
            return self.deed([("make", held), ("set", record, way[-1], ("to", len(self.heaps[self.at])))])
        return self.deed([("set", record, way[-1], held[0])])

    def read(self, way):
        if self.wrong(way):
            return self.wrong(way)
        told = self.led(way)[1]
        return "record" if isinstance(told, tuple) else "none" if told is None else str(told)

    def same(self, one, other):
        for way in (one, other):
            if self.wrong(way):
                return self.wrong(way)
        told = self.led(one)[1]
        return "yes" if isinstance(told, tuple) and told == self.led(other)[1] else "no"

    def to(self, version):
        if version is None or version > len(self.story):
            return "none"
        self.at = version
        return "version " + str(version)

    def back(self):
        return self.to(self.story[self.at - 1][0] if self.at else None)

    def on(self):
        children = [version for version in range(1, len(self.heaps)) if self.story[version - 1][0] == self.at]
        return self.to(max(children) if children else None)

    def since(self, way):
        return "version " + str(plain_since(self.story, self.wide, self.at, way))

    def when(self, way, value):
        told = plain_times(self.story, self.wide, way, value)
        return " ".join(str(first) + "-" + str(last) for first, last in told) or "never"

    def unlike(self, version):
        if version > len(self.story):
            return "none"
        common, rows = plain_unlike(self.story, self.wide, self.at, version)
        return str(common) + "".join(" " + str(row[0]) + "." + str(row[1]) for row in rows)

    def least(self, version):
        if version > len(self.story) or len(self.heaps[version]) < len(self.heaps[self.at]):
            return "none"
        one, other = self.heaps[self.at], self.heaps[version]
        many = len(other) - len(one)
        many += sum(1 for here, there in zip(one, other) for pair in zip(here, there) if pair[0] != pair[1])
        return str(many + sum(1 for record in range(len(one), len(other)) for value in other[record]
                              if isinstance(value, tuple) and value[1] > record))
