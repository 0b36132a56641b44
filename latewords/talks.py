"""Talks: finite graphs of conversations, and their paths (point 17)."""

from latewords.conversations import MOST_WRITES, is_write
from latewords.errors import BadPath, BadTalk, EndlessTurn
from latewords.graphs import has_cycle, reached
from latewords.integers import between


class Talk:
    """Nodes and edges from 0 on, each edge with a write; the conversations are the paths from the start to an end."""

    MOST_NODES = 8
    MOST_EDGES = 12

    def __init__(self, nodes, start, ends, edges):
        check_frame(nodes, start, ends, edges)
        for index, edge in enumerate(edges):
            if not is_edge(edge, nodes):
                raise BadTalk(index)
        for endpoint in (0, 1):
            if has_cycle([edge[:2] for edge in edges if edge[2] == endpoint]):
                raise EndlessTurn(endpoint)
        self._node_count = nodes
        self._start = start
        self._ends = sorted(ends)
        self._edges = list(edges)
        self._useful = useful_edges(start, ends, edges)

    def __len__(self):
        return len(self._edges)

    def __getitem__(self, at):
        return self._edges[at]

    def __iter__(self):
        raise TypeError("a talk is not iterated over; its edges are")

    def __contains__(self, x):
        return isinstance(x, list) and self._first_wrong(x) is None

    @property
    def node_count(self):
        """The number of nodes."""
        return self._node_count

    @property
    def first_node(self):
        """The start node."""
        return self._start

    def ends(self):
        """Return the end nodes, ascending."""
        return list(self._ends)

    def edges(self):
        """Return the edges."""
        return list(self._edges)

    def useful(self):
        """Return the numbers of the edges that stand in some path, ascending."""
        return list(self._useful)

    def conversation(self, path):
        """Return the writes of a path, or raise BadPath for any value that is none."""
        if not isinstance(path, list) or len(path) > MOST_WRITES:
            raise BadPath(None)
        wrong = self._first_wrong(path)
        if wrong is not None:
            raise BadPath(wrong)
        return path_writes(self, path)

    def paths(self, count):
        """Generate all paths of exactly so many edges in ascending order."""
        leading = self._leading(count)
        waiting = [[]] if self._start in leading[count] else []
        while waiting:
            path = waiting.pop()
            left = count - len(path)
            if left > 0:
                # The least edge is put there last, so that it is taken first.
                longer = [path + [number] for number in self._edges_after(path) if
                          self._edges[number][1] in leading[left - 1]]
                waiting.extend(longer[::-1])
            else:
                yield path

    def _leading(self, count):
        """Return for each number of edges up to count the nodes from which so many lead to an end node."""
        found = [list(self._ends)]
        for _ in range(count):
            found.append([edge[0] for edge in self._edges if edge[1] in found[-1]])
        return found

    def _edges_after(self, path):
        """Return the numbers of the edges that begin where the edges of a path end, ascending."""
        node = self._edges[path[-1]][1] if path else self._start
        return [number for number, edge in enumerate(self._edges) if edge[0] == node]

    def _first_wrong(self, path):
        """Return the index of the first item of a list that cannot stand there, or None if it is a path."""
        node = self._start
        for index, number in enumerate(path):
            if not between(number, 0, len(self._edges) - 1) or self._edges[number][0] != node:
                return index
            node = self._edges[number][1]
        return None if node in self._ends else len(path)


def check_frame(nodes, start, ends, edges):
    """Raise BadTalk(None) if one of any values cannot stand in a talk, the single edges aside."""
    if not between(nodes, 1, Talk.MOST_NODES) or not between(start, 0, nodes - 1) or not isinstance(ends, list):
        raise BadTalk(None)
    for index, node in enumerate(ends):
        if not between(node, 0, nodes - 1) or node in ends[:index]:
            raise BadTalk(None)
    if not isinstance(edges, list) or len(edges) > Talk.MOST_EDGES:
        raise BadTalk(None)


def is_edge(value, nodes):
    """Tell whether any value is a tuple of two nodes and a write."""
    if not isinstance(value, tuple) or len(value) != 5:
        return False
    return between(value[0], 0, nodes - 1) and between(value[1], 0, nodes - 1) and is_write(value[2:])


def useful_edges(start, ends, edges):
    """Return the numbers of the edges that stand in some path, ascending."""
    begun = reached([(edge[0], edge[1]) for edge in edges], [start])
    ending = reached([(edge[1], edge[0]) for edge in edges], ends)
    return [number for number, edge in enumerate(edges) if edge[0] in begun and edge[1] in ending]


def path_writes(talk, path):
    """Return the writes of a path of any length."""
    return [talk[number][2:] for number in path]
