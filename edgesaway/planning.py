"""Planning: a plan of the least bound, found by statistics alone."""

from edgesaway.bounds import PlanBound, behind_some, first_bound
from edgesaway.plans import fits_way
from edgesaway.questions import folded, ways_of


def plan_of(schema, stats, indexes, question):
    """A plan that fits a question and whose bound is the least of all plans that fit."""
    leaves = [("way", (way, plans_for(schema, indexes, question, way))) for way in ways_of(question)]
    tree = folded(question, leaves, tree_of)
    return Planner(PlanBound(schema, stats, indexes)).least(tree, first_bound(schema, question))[1]


def plans_for(schema, indexes, question, way):
    """All plans that fit a way of a question."""
    plans = [("forward",), ("backward",)]
    for number in range(len(indexes)):
        for plan in (("index", number), ("prefix", number)):
            if fits_way(schema, indexes, question, way, plan):
                plans.append(plan)
    return plans


def tree_of(word, parts):
    """What is planned for a body of a told kind, by what is planned for its parts."""
    return word, parts


class Planner:
    """Looks for plans of the least bound.

    A tree is a body with its plans: the word of the body, and behind it the trees of its parts, or a way and all
    plans that fit it.
    """

    def __init__(self, bounds):
        self._bounds = bounds

    def least(self, tree, nodes):
        """The least bound of all plans for a tree, a plan that has it, and the bound on nodes behind the tree."""
        word, parts = tree
        if word == "way":
            way, plans = parts
            return self._least_of_way(way, plans, nodes)
        if word == "not":
            bound, plan, _ = self.least(parts[0], nodes)
            return bound, ("not", plan), nodes
        return self._least_of_all(parts, nodes) if word == "and" else self._least_of_some(parts, nodes)

    def _least_of_way(self, way, plans, nodes):
        """What `least` tells of a way."""
        bound, at = min([(self._bounds.way_bound(way, plan, nodes), at) for at, plan in enumerate(plans)])
        return bound, plans[at], self._bounds.behind_way(way, nodes)

    def _least_of_some(self, parts, nodes):
        """What `least` tells of an "or": all parts have the same bound on nodes, so any order will do."""
        told = [self.least(part, nodes) for part in parts]
        plan = ("parts", tuple(range(len(parts))), tuple([part[1] for part in told]))
        return sum([part[0] for part in told]), plan, behind_some(nodes, [part[2] for part in told])

    def _least_of_all(self, parts, nodes):
        """What `least` tells of an "and".

        Behind a body that holds, the bound for an unknown is the lesser one of what it was and of a number that the
        statistics alone tell. So the bound on nodes behind some parts is the same in whatever order they come, and
        the best order of these parts is looked for once: not all orders are gone through, but all sets of parts,
        each as the number with the bits of its parts.
        """
        found = {0: (0, (), nodes)}
        for ahead in range(1 << len(parts)):
            bound, route, behind = found[ahead]
            for at, part in enumerate(parts):
                if (ahead >> at) & 1 == 0:
                    more, plan, later = self.least(part, behind)
                    chosen = ahead | (1 << at)
                    if chosen not in found or bound + more < found[chosen][0]:
                        found[chosen] = (bound + more, (*route, (at, plan)), later)
        bound, route, behind = found[(1 << len(parts)) - 1]
        plans = dict(route)
        order = tuple([at for at, _ in route])
        return bound, ("parts", order, tuple([plans[at] for at in range(len(parts))])), behind
