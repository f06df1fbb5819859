"""Pipelines: programs that are led through tools, with the way back to the first texts."""

from mapstack.checks import is_up_to
from mapstack.composing import composed
from mapstack.errors import BadMap, BadName, BadNumber, NothingLeft
from mapstack.maps import Map, check_source
from mapstack.tokens import check_program, read_rows, tokens
from mapstack.tools import Tool

# A slash and the number of tools stand behind the name.
SOURCE_LIMIT = 30


class Pipeline:
    """A program, and what tools have made of it, one after the other."""

    def __init__(self, text, source):
        check_program(text)
        check_source(source)
        if len(source) > SOURCE_LIMIT:
            raise BadName(source)
        self._lengths = tuple([len(row) for row, _, _ in read_rows(text)])
        self._program = text
        self._source = source
        # For each tool the text that it has made, the map of it to the text before, and the title.
        self._stages = ()

    def _name_of(self, number):
        """The source that stands for the text behind so many tools."""
        return self._source if number == 0 else f"{self._source}/{number}"

    def _applied(self, tools):
        """The stages behind some tools more."""
        for tool in tools:
            if not isinstance(tool, Tool):
                raise BadMap(tool)
        stages = self._stages
        for tool in tools:
            before = stages[-1][0] if stages else self._program
            text, step = tool(before, self._name_of(len(stages)))
            stages = stages + ((text, step, tool.TITLE),)
        return stages

    def apply(self, *tools):
        """Apply tools in turn; the new text."""
        self._stages = self._applied(tools)
        return self[len(self)]

    def tried(self, *tools):
        """The text that would be made by tools in turn."""
        stages = self._applied(tools)
        return stages[-1][0] if stages else self._program

    def take_back(self):
        """Take the last tool back."""
        if not self._stages:
            raise NothingLeft()
        self._stages = self._stages[:-1]

    def __len__(self):
        return len(self._stages)

    def __getitem__(self, at):
        """The text behind so many tools."""
        if not is_up_to(at, len(self._stages)):
            raise BadNumber(at)
        return self._program if at == 0 else self._stages[at - 1][0]

    def __iter__(self):
        raise TypeError("a pipeline is not iterated over; its texts have numbers")

    def titles(self):
        """What the tools are called, in a tuple."""
        return tuple([title for _, _, title in self._stages])

    def step_map(self, n):
        """The map of the text behind n tools to the one before."""
        if not is_up_to(n, len(self._stages)) or n == 0:
            raise BadNumber(n)
        return self._stages[n - 1][1]

    def origin_map(self):
        """The map of the text now to the first texts."""
        if not self._stages:
            return Map.identity(self._source, self._lengths)
        steps = [step for _, step, _ in self._stages]
        levels = [{self._name_of(n): steps[n - 1]} for n in reversed(range(1, len(steps)))]
        return composed(steps[-1], *levels)

    def origins(self):
        """Yield the tokens of the text now, each with the target of its beginning by the origin map."""
        own_map = self.origin_map()
        text = self[len(self)]
        for _, spelling, line, column in tokens(text):
            yield spelling, own_map.target_at(line, column)
