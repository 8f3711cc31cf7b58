"""Graphs that are found node by node, from their first nodes on."""


class Unfolding:
    """A graph on which two players move. Its nodes are numbered as they are found.

    A node is found when it is asked for or led to, and it is settled later, in
    the order of the numbers: then its owner, its priority and its steps are known.
    """

    def __init__(self, first):
        self.nodes = []
        self.owners = []
        self.priorities = []
        self.rows = []
        self._places = {}
        for node in first:
            self.place_of(node)

    def place_of(self, node):
        """Return the number of a node."""
        if node not in self._places:
            self._places[node] = len(self.nodes)
            self.nodes.append(node)
        return self._places[node]

    def unsettled(self):
        """Return the first node that is not settled, or None."""
        if len(self.rows) == len(self.nodes):
            return None
        return self.nodes[len(self.rows)]

    def settle(self, owner, priority, steps):
        """Say of the first node that is not settled what it is, and to which nodes it leads."""
        self.owners.append(owner)
        self.priorities.append(priority)
        self.rows.append([self.place_of(step) for step in steps])
