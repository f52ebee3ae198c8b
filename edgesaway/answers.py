"""Answers: the truth of a row, how far it is from being otherwise, and the papers that show it."""

from edgesaway.costs import end_costs
from edgesaway.flowing import yes_paper
from edgesaway.papers import judge_paper, paper_of, paper_price, paper_truth
from edgesaway.questions import folded
from edgesaway.truths import combined_parts, way_pairs


def least_turn(question, truths, prices):
    """What follows from the truths and the distances of the ways.

    A triple: the truth, the distance, and the numbers of the ways that are turned for this distance.
    """
    leaves = [(truth, price, (at,)) for at, (truth, price) in enumerate(zip(truths, prices))]
    return folded(question, leaves, joined_turns)


def joined_turns(word, turns):
    """The triple of a body of a told kind that follows from those of its parts."""
    truth = combined_parts(word, [turn[0] for turn in turns])
    if word == "not":
        return (truth, *turns[0][1:])
    # What makes an "and" not hold, or an "or" hold, must be turned in all parts; otherwise one part is enough.
    if truth == ("no" if word == "and" else "yes"):
        turned = [turn for turn in turns if turn[0] == truth]
    else:
        turned = [least_of(turns)]
    if any([turn[1] is None for turn in turned]):
        return (truth, None, ())
    return (truth, sum([turn[1] for turn in turned]), tuple([at for turn in turned for at in turn[2]]))


def least_of(turns):
    """The first one of the triples with the least distance, where None is greater than each number."""
    least = min([turn[1] for turn in turns if turn[1] is not None], default=None)
    return [turn for turn in turns if turn[1] == least][0]


def combined_price(question, truths, prices):
    """The distance that follows from the truths and the distances of the ways."""
    return least_turn(question, truths, prices)[1]


def far_pair(schema, graph, book, x, y, costs):
    """The truth and the distance of two nodes, by the least costs of the ways from x."""
    if costs.get(y) == 0:
        return ("yes", paper_price(yes_paper(schema, graph, book, x, y)))
    return ("no", costs.get(y))


def far_pairs(schema, graph, book, pairs):
    """For each of some pairs of nodes its truth and its distance, each reckoned once."""
    costs = {}
    found = {}
    for x, y in pairs:
        if x not in costs:
            costs[x] = end_costs(schema, graph, book, x)
        if (x, y) not in found:
            found[(x, y)] = far_pair(schema, graph, book, x, y, costs[x])
    return [found[pair] for pair in pairs]


def far_rows(schema, graph, question, rows):
    """The list of the pairs of the truth and the distance of some rows."""
    columns = [far_pairs(schema, graph, book, pairs) for book, pairs in way_pairs(schema, question, rows)]
    found = []
    for at in range(len(rows)):
        cells = [column[at] for column in columns]
        found.append(least_turn(question, [cell[0] for cell in cells], [cell[1] for cell in cells])[:2])
    return found


def distance_of(schema, graph, question, row):
    """How far the truth of a row is from being otherwise, None if it never is."""
    return far_rows(schema, graph, question, [row])[0][1]


def cells_of(schema, question, row):
    """For each way of a question its book and the two nodes that a row makes of its ends."""
    return [(book, *pairs[0]) for book, pairs in way_pairs(schema, question, [row])]


def turn_told(question, papers):
    """The triple of `least_turn` that follows from papers of the ways."""
    return least_turn(question, [paper_truth(paper) for paper in papers], [paper_price(paper) for paper in papers])


def answer_of(schema, graph, question, row):
    """A right answer to a row."""
    papers = tuple([paper_of(schema, graph, book, x, y) for book, x, y in cells_of(schema, question, row)])
    truth, price, _ = turn_told(question, papers)
    return ("answer", truth, price, papers)


def judge_answer(schema, graph, question, row, answer):
    """Whether an answer to a row has right papers, and a truth and a distance that follow from them."""
    word, truth, price, papers = answer
    cells = cells_of(schema, question, row)
    if word != "answer" or len(papers) != len(cells):
        return False
    for (book, x, y), paper in zip(cells, papers):
        if not judge_paper(schema, graph, book, x, y, paper):
            return False
    return turn_told(question, papers)[:2] == (truth, price)
