"""The whole program together: [1], [2], [3], and the names of the interface."""

import ast
import importlib
import inspect
import os
import unittest

from edgesaway.bases import Base
from edgesaway.disks import Disk
from edgesaway.houses import House
from edgesaway.stores import Store
from edgesaway.views import Views
from edgesaway.windows import Window
from tests.dealt import do_step, some_step
from tests.seen import some_sight
from tests.stored import PLAIN, some_changes
from tests.support import FLAT, PAIR, TOWN, by_chance, some_graph

ROOT = os.path.join(os.path.dirname(os.path.dirname(os.path.abspath(__file__))), "edgesaway")
FUNCTIONS = {
    "schemas": "check_schema(schema) is_name(text) node_count(schema) nodes_of(schema,kind) kind_of(schema,node)"
               " is_edge(schema,edge) edges_let(schema,label)",
    "graphs": "is_graph(schema,graph) outcome(schema,graph,change) changed(schema,graph,changes) price_of(schema,changes)"
              " difference(graph,other) apart(schema,graph,other)",
    "balls": "ball(schema,graph,most)",
    "meaning": "is_way(schema,book,x,y,way) joined(schema,graph,book,x,y) letter_ends(schema,letter) walk_ends(letter,edge)",
    "tokens": "tokens_of(text)",
    "schematexts": "read_schema(text) write_schema(schema)",
    "expressiontexts": "read_expression(schema,text) write_expression(schema,expression)",
    "questiontexts": "read_question(schema,text) write_question(schema,question)",
    "edgetexts": "read_edges(schema,text) read_graph(schema,text) write_graph(schema,graph) node_text(schema,node)",
    "books": "is_book(schema,book) book_of(schema,expression) labels_of(expression) has_word(book,word)"
             " reversed_book(schema,book) meet(book,other)",
    "trims": "trimmed(schema,book,start,end) has_fitting(schema,book,start,end)",
    "frames": "frame_of(schema,book,start,end) frame_holds(schema,graph,frame,x,y)",
    "within": "within(schema,book,other,start,end) alike(schema,book,other,start,end) parting(schema,book,other,start,end)",
    "sides": "opened(book,x,side) is_closed(schema,graph,book,x,side) bars(schema,graph,book,x,y,side)",
    "flows": "cut_of(schema,graph,book,x,side) judge_flow(schema,graph,book,x,y,paper) judge_sure(schema,graph,book,x,y,paper)",
    "flowing": "yes_paper(schema,graph,book,x,y)",
    "costs": "cost_of(schema,graph,edge) heights_of(schema,graph,book,x) cheapest_way(schema,graph,book,x,y)",
    "gaps": "judge_gap(schema,graph,book,x,y,paper) judge_never(schema,graph,book,x,y,paper) no_paper(schema,graph,book,x,y)",
    "papers": "paper_of(schema,graph,book,x,y) judge_paper(schema,graph,book,x,y,paper) paper_price(paper)"
              " paper_turning(schema,graph,book,x,y,paper) plain_distance(schema,graph,book,x,y,most)",
    "questions": "check_question(schema,question) rows_of(schema,question) ways_of(question) row_ends(question,row)"
                 " is_row(schema,question,row)",
    "truths": "truth_of(schema,graph,question,row) table_of(schema,graph,question) combined(question,truths)",
    "answers": "distance_of(schema,graph,question,row) combined_price(question,truths,prices)"
               " answer_of(schema,graph,question,row) judge_answer(schema,graph,question,row,answer)",
    "turnings": "turning_of(schema,graph,question,row) judge_turning(schema,graph,question,row,changes)",
    "lags": "told_word(schema,graph,question,row,lag) told_words(schema,graph,question,lag)"
            " counts_between(schema,graph,question,lag)",
    "standings": "standing_of(schema,graph,question) weakest(schema,graph,question,many) nearest(schema,graph,question,many)",
    "settling": "settled(question,truths,prices,spent)",
    "stats": "stats_of(schema,graph) stats_behind(schema,stats,graph,changes)",
    "indexes": "index_of(schema,graph,expression,start,end)",
    "plans": "judge_plan(schema,indexes,question,plan)",
    "planruns": "run_plan(schema,graph,indexes,question,plan)",
    "bounds": "bound_of(schema,stats,indexes,question,plan)",
    "planning": "plan_of(schema,stats,indexes,question)",
    "finishing": "finished(table,finish)",
    "pages": "pages_of(number,graph) firsts_of(pages) pages_for(schema,firsts,label)",
    "logs": "log_blocks(number,position,changes) taken_commits(blocks,number,position)",
    "parts": "check_sight(schema,sight) part_schema(schema,sight) part_graph(schema,sight,graph)"
             " part_question(schema,sight,question) part_row(sight,row) whole_row(sight,row) whole_edge(sight,edge)",
    "sights": "seen_table(schema,sight,graph,question) seen_distance(schema,sight,graph,question,row)"
              " seen_word(schema,sight,graph,question,row,lag) seen_answer(schema,sight,graph,question,row)"
              " seen_turning(schema,sight,graph,question,row) seen_rows(schema,sight,question)",
    "loads": "load_changes(schema,graph,text) export(schema,sight,graph)",
}
# For each class its module, its properties and its methods.
CLASSES = {
    "Search": ("searches", "states gates touched ends", "__init__(schema,graph,book,x)"),
    "LeastWays": ("leastways", "length many", "__init__(schema,graph,book,x,y) ways() way_at(number) number_of(way)"),
    "Disk": ("disks", "size plates waiting reads fuse",
             "__init__(many) of(blocks) read(at) write(at,block) sync() cut(mask) set_fuse(many,mask)"),
    "Store": ("stores", "schema graph position newest room logged",
              "founded(disk,schema,graph,*,pages,logs,lead) opened(disk) commit(changes) sync() checkpoint()"),
    "Cold": ("cold", "looked schema", "__init__(disk) told(question,row) told_rows(question)"),
    "Base": ("bases", "schema graph position meters asked open_deals",
             "__init__(schema,graph) deal() commit(changes) difference_at(position) graph_at(position)"),
    "Deal": ("deals", "graph steps ended",
             "ask(question) look(question,row) put(source,label,target) take(source,label,target) commit() drop()"
             " __enter__() __exit__(kind,value,trace)"),
    "Views": ("views", "graph names renewed",
              "__init__(schema,graph) keep(name,question) forget(name) table(name) truth(name,row) left(name,row)"
              " commit(changes)"),
    "Head": ("heads", "graph position",
             "__init__(schema,graph,leads) hear(letter) next_letter(number) known(number) commit(changes)"),
    "Copy": ("copies", "life blank position graph",
             "__init__(schema,number,lead) begin() hear(letter) told(question,row) told_rows(question)"),
    "Window": ("windows", "asked", "__init__(base,sight) table(question) deal()"),
    "SightDeal": ("windows", "steps ended",
                  "ask(question) look(question,row) put(source,label,target) take(source,label,target) commit() drop()"
                  " __enter__() __exit__(kind,value,trace)"),
    "House": ("houses", "schema disk base views head copies letters down stored",
              "__init__(schema,graph,*,pages,logs,lead,leads=()) deal() commit(deal) keep(name,question) forget(name)"
              " checkpoint() begin(number) send(number) deliver(number) lose(number) double(number) cut(mask) reopen()"
              " cold()"),
    "Desk": ("desks", "house", "__init__(schema,graph,*,pages,logs,lead,leads=()) say(line)"),
}


def told_of(names):
    """Pairs of a name and of its parameters."""
    return [(text.partition("(")[0], text.partition("(")[2][:-1]) for text in names.split()]


def parameters_of(call):
    return str(inspect.signature(call))[1:-1].replace(" ", "")


class Interface(unittest.TestCase):
    def test_functions(self):
        for module, names in FUNCTIONS.items():
            found = importlib.import_module(f"edgesaway.{module}")
            for name, parameters in told_of(names):
                call = getattr(found, name)
                self.assertEqual((call.__module__, parameters_of(call)), (found.__name__, parameters), name)

    def test_classes(self):
        for name, (module, properties, methods) in CLASSES.items():
            found = getattr(importlib.import_module(f"edgesaway.{module}"), name)
            self.assertEqual(found.__module__, f"edgesaway.{module}")
            for part in properties.split():
                self.assertIsInstance(vars(found)[part], property, f"{name}.{part}")
                self.assertIsNone(vars(found)[part].fset)
            for method, parameters in told_of(methods):
                self.assertIn(method, vars(found))
                told = parameters_of(getattr(found, method))
                if not isinstance(vars(found)[method], classmethod):
                    told = told.partition(",")[2] if "," in told else ""
                self.assertEqual(told, parameters, f"{name}.{method}")

    def test_nothing_from_outside(self):
        """No clock, no random numbers, no files: the package imports little more than itself."""
        for name in os.listdir(ROOT):
            if not name.endswith(".py"):
                continue
            with open(os.path.join(ROOT, name), encoding="utf-8") as file:
                tree = ast.parse(file.read())
            for part in ast.walk(tree):
                if isinstance(part, ast.ImportFrom):
                    self.assertTrue(part.module == "heapq" or part.module.startswith("edgesaway."), name)


class Together(unittest.TestCase):
    def test_equal_calls(self):
        """Equal arguments give equal results; what was done with other objects is no matter."""
        results = []
        for _ in range(2):
            chance = by_chance(102)
            told = []
            for _ in range(15):
                schema = chance.choice((FLAT, PAIR, PLAIN, TOWN))
                graph = some_graph(schema, chance, 8)
                house = House(schema, graph, pages=4, logs=4, lead=9, leads=(5, 5))
                window = Window(Base(schema, graph), some_sight(schema, chance))
                for _ in range(5):
                    with house.deal() as deal:
                        for _ in range(3):
                            told.append(do_step(deal, some_step(schema, deal.graph, chance)))
                        try:
                            told.append(house.commit(deal))
                        except ValueError as error:
                            told.append((error.__class__.__name__, vars(error)))
                    house.deliver(0)
                    told.append((house.disk.plates, house.letters, house.base.meters, house.views.graph))
                told.append(window.deal().ended)
            results.append(told)
        self.assertEqual(*results)

    def test_what_is_passed_stays(self):
        """Objects that are made of the same things do not know of one another."""
        chance = by_chance(103)
        graph = some_graph(PLAIN, chance, 9)
        blocks = (None,) * 9
        disks = [Disk.of(blocks), Disk.of(blocks)]
        bases = [Base(PLAIN, graph), Base(PLAIN, graph)]
        views = [Views(PLAIN, graph), Views(PLAIN, graph)]
        store = Store.founded(disks[0], PLAIN, graph, pages=2, logs=3, lead=9)
        changes = some_changes(PLAIN, graph, chance, 3, 9)
        store.commit(changes)
        bases[0].commit(changes)
        views[0].commit(changes)
        self.assertEqual((disks[1].plates, disks[1].waiting, blocks), (blocks, 0, (None,) * 9))
        self.assertEqual((bases[1].graph, bases[1].position, views[1].graph), (graph, 0, graph))
        plates = disks[0].plates
        disks[0].sync()
        self.assertNotEqual(disks[0].plates, plates)

    def test_as_large_as_can_be(self):
        schema = ("schema", (("n", 24),), tuple((f"label{at}", 0, 0, 9, "many") for at in range(12)))
        graph = tuple((x, label, (x * 5 + label) % 24) for x in range(24) for label in range(4))
        house = House(schema, graph, pages=12, logs=40, lead=1000, leads=(1000,) * 6)
        steps = [("step", label, label % 2) for label in range(8)]
        expression = steps[0]
        for step in steps[1:]:
            expression = ("either", expression, ("star", step))
        one = ("question", (0, 0), ("way", ("star", expression), ("unknown", 0), ("unknown", 1)))
        eight = ("question", (0,), ("and", tuple(("way", step, ("unknown", 0), ("node", at)) for at, step in enumerate(steps))))
        for at in range(12):
            house.keep(f"v{at}", eight if at else one)
        for at in range(6):
            house.deliver(0)
        for at in range(6):
            house.deliver(0)
        deals = [house.deal() for _ in range(12)]
        for at, deal in enumerate(deals):
            deal.look(one, (0, at))
            self.assertEqual([deal.put(x, 4 + at % 2, x) for x in range(at // 2, 24, 6)].count("done"), 4)
            for x in range(at // 2, 24, 6):
                deal.take(x, 4 + at % 2, x)
        self.assertEqual([house.commit(deal) for deal in deals], [0] * 12)
        with house.deal() as deal:
            deal.take(0, 0, 0)
            self.assertEqual(house.commit(deal), 1)
        house.reopen()
        self.assertEqual((house.base.graph, house.stored), (graph[1:], 1))


if __name__ == "__main__":
    unittest.main()
