"""What [1] promises over the whole program, (a) to (g), on small tables, by walks gone through by hand."""

import itertools
import random
import unittest

from manyruns.bench import Bench
from manyruns.bodies import kind_of
from manyruns.desk import answers
from manyruns.evers import least_none, ring_of, shows_none, shows_ring, stands
from manyruns.likes import follows
from manyruns.mends import least_mend, no_mend, shows_no_mend
from manyruns.plans import answer_by, places_of, plan_of, shows_plan
from manyruns.programs import Program
from manyruns.progtables import table_of
from manyruns.saytexts import say_in, say_text
from manyruns.sets import all_sets, first_answer, least_unanswered, shows_answered, shows_unanswered
from manyruns.sides import least_break, shows_all, shows_break, side_by_side
from manyruns.tables import Table
from manyruns.tabletexts import table_in, table_text
from manyruns.walks import walks_of
from tests.handanswers import (answers_by_hand, kept, leading_walks, leads, many_by_hand, random_saying, side_by,
                               stands_by_hand)
from tests.helpers import backs_of, random_body, random_table, walks_by_runs

PQ = (("all", "p"), ("some", "q"))


def cases(seed, many, shapes, states=3):
    chance, found = random.Random(seed), 0
    while found < many:
        table = random_table(chance, states, 2)
        saying = random_saying(chance, chance.choice(shapes), chance.randint(1, 3))
        if len(table.states) ** len(saying[0]) * 2 ** backs_of(saying[1]) <= 64 and many_by_hand(table, saying) <= 1024:
            found += 1
            yield table, saying


def how_far(table, many):
    """So many steps that not too many walks of so many runs have as many."""
    steps = 1
    while len(walks_by_runs(table, many, steps + 1)) <= 300 and steps < 6:
        steps += 1
    return steps


class WholeTest(unittest.TestCase):

    def test_a_sayings_of_all_runs(self):
        held = 0
        for table, saying in cases(171, 150, (("all",), ("all", "all"), ("all",) * 3)):
            many = len(saying[0])
            walk, paper = least_break(table, saying), side_by_side(table, saying)
            self.assertEqual((shows_all(table, saying, paper), shows_break(table, saying, walk)),
                             (walk is None, walk is not None))
            held += walk is None
            for steps in range(1, how_far(table, many) + 1):
                broken = [one for one in walks_by_runs(table, many, steps) if not kept(table, saying, one)]
                if walk is None or steps < len(walk):
                    self.assertEqual(broken, [])
                elif steps == len(walk):
                    self.assertEqual(broken[0], walk)
        self.assertTrue(20 < held < 130, held)

    def test_b_runs_that_answer(self):
        held = 0
        shapes = (("all", "some"), ("all", "all", "some"), ("all", "some", "some"))
        for table, saying in cases(172, 150, shapes):
            walk, paper = least_unanswered(table, saying), all_sets(table, saying)
            self.assertEqual((shows_answered(table, saying, paper), shows_unanswered(table, saying, walk)),
                             (walk is None, walk is not None))
            held += walk is None
            for steps in range(1, min(4, how_far(table, len(saying[0]))) + 1):
                bare = [one for one in leading_walks(table, saying, steps) if not answers_by_hand(table, saying, one)]
                if walk is None or steps < len(walk):
                    self.assertEqual(bare, [])
                elif steps == len(walk):
                    self.assertEqual(bare[0], walk)
        self.assertTrue(20 < held < 130, held)

    def test_c_plans(self):
        planned = 0
        for table, saying in cases(173, 150, (("all", "some"), ("all", "some", "some"))):
            there = False
            for ahead in (0, 1, 2):
                if len(table.states) ** (len(saying[0]) + ahead) * 2 ** backs_of(saying[1]) > 512:
                    continue
                plan = plan_of(table, saying, ahead=ahead)
                self.assertTrue(plan is not None or not there)
                if plan is None:
                    continue
                there = True
                planned += 1
                self.assertTrue(shows_plan(table, saying, plan, ahead=ahead))
                self.assertIs(least_unanswered(table, saying), None)
                self.check_answers(table, saying, plan, ahead)
        self.assertGreater(planned, 100)

    def check_answers(self, table, saying, plan, ahead):
        """Each run is answered, and alike as long as what is seen of two is."""
        told = {}
        for walk in walks_by_runs(table, 1, 4 + ahead)[:60]:
            run = [state for state, in walk]
            answer = answer_by(table, saying, plan, run, ahead=ahead)
            self.assertTrue(kept(table, saying, side_by(walk, answer)))
            for steps in range(1, len(answer) + 1):
                seen = tuple(run[:steps + ahead])
                self.assertEqual(told.setdefault(seen, answer[:steps]), answer[:steps])
                self.assertEqual(answer_by(table, saying, plan, run[:steps + ahead], ahead=ahead), answer[:steps])

    def test_d_runs_for_ever(self):
        rings = 0
        for table, saying in cases(174, 150, (("some",), ("some", "some"), ("some", "all"), ("some", "all", "all"))):
            number, ring = least_none(table, saying), ring_of(table, saying)
            self.assertEqual(number is None, ring is not None)
            rings += ring is not None
            if ring is not None:
                self.assertTrue(shows_ring(table, saying, ring))
                self.assertTrue(stands(table, saying, (ring[0] + ring[1] * 40)[:40]))
                self.assertFalse(shows_none(table, saying, []))
            for steps in range(1, min(4, how_far(table, len(saying[0]))) + 1):
                told = any(stands_by_hand(table, saying, walk) for walk in leading_walks(table, saying, steps))
                self.assertIs(told, number is None or steps < number)
        self.assertTrue(20 < rings < 130, rings)

    def test_e_ways_that_tell_of_one_thing(self):
        chance = random.Random(175)
        for _ in range(150):
            table, marks = random_table(chance, 5, 2), tuple(sorted(chance.sample("xyz", chance.randint(1, 3))))
            every = Table(table.states, table.moves, begins=table.states, shows=table.shows)
            alike = (PQ, ("alike", "p", "q", marks))
            self.assertEqual([(one, other) for (one,), (other,), _ in places_of(every, alike)], follows(table, marks))
            self.assertTrue(plan_of(table, alike) is None or least_unanswered(table, alike) is None)
            body = random_body(chance, ["p"], 3)
            if many_by_hand(table, (PQ, body)) <= 1024:
                self.assertEqual(least_unanswered(table, (PQ, body)), least_break(table, (PQ[:1], body)))
                other = ((("all", "p"), ("all", "q")), body)
                walk = least_break(table, other)
                self.assertEqual(walk and [step[:1] for step in walk], least_break(table, (PQ[:1], body)))

    def test_f_mends(self):
        mended = 0
        for table, saying in cases(176, 400, (("all",), ("all", "all"))):
            mend = least_mend(table, saying)
            for many in (0, 1, 2):
                paper = no_mend(table, saying, many=many)
                self.assertIs(paper is None, mend is not None and len(mend) <= many)
                self.assertIs(shows_no_mend(table, saying, many, paper), paper is not None)
            if mend:
                mended += 1
                for steps in (1, 2, 3):
                    walks = [walk for walk in walks_by_runs(table, len(saying[0]), steps)
                             if not {move for one, other in zip(walk, walk[1:]) for move in zip(one, other)} & set(mend)]
                    self.assertEqual(walks_of(table.without(mend), len(saying[0]), steps), walks)
                    self.assertTrue(all(kept(table, saying, walk) for walk in walks))
        self.assertGreater(mended, 15)

    def test_g_the_bench_tells_of_the_table_that_stands(self):
        shapes = (("all",), ("all", "all"), ("all", "some"), ("some",), ("some", "all"))
        for table, saying in cases(177, 100, shapes):
            bench = Bench(table)
            bench.say("s", saying)
            told = bench.told("s")
            for change in (lambda: bench.cut(*table.moves[0]), lambda: bench.do([("begin", "z"), ("unsay", "s")]),
                           lambda: bench.mend("s"), lambda: bench.drop(table.states[-1]), lambda: bench.link("a", "a")):
                deeds, ends = bench.deeds(), len(bench.log())
                refused = False
                try:
                    change()
                except (LookupError, RuntimeError, ValueError):
                    refused = True
                self.assertEqual(bench.deeds(), deeds + (not refused))
                self.assertIs(bench.is_open(), False)
                words = [word for _, word in bench.log()[ends:]]
                self.assertEqual(sorted(bench.log()[ends:]),
                                 sorted((end, word) for word in words[:len(words) // 2] for end in ("in", "out")))
                self.check_told(bench)
                while bench.deeds() > 1:
                    bench.undo()
                self.assertEqual((bench.table(), bench.told("s")), (table, told))

    def check_told(self, bench):
        table, saying = bench.table(), bench.saying("s")
        ask = {"all": least_break, "answer": least_unanswered}.get(kind_of(saying), least_none)
        least = ask(table, saying)
        self.assertEqual(bench.told("s"), ("true", None) if least is None else ("false", least))


class ProgramTest(unittest.TestCase):
    """From a program's text to what a desk answers."""

    # h is hidden, and is shown where l is given it.
    LEAK = "var l 1 0\nin h 1\nshow l\nset l h"
    KEEP = "var l 1 0\nin h 1\nshow l\nset l 1 - l"

    def test_whether_what_is_shown_hangs_on_what_is_hidden(self):
        alike = say_in("all p all q : p~q.la,lb")
        leak, keep = table_of(Program(self.LEAK)), table_of(Program(self.KEEP))
        walk = [("saa", "sab"), ("saa", "sba")]
        self.assertEqual(least_break(leak, alike), walk)
        self.assertEqual([one for one in walks_by_runs(leak, 2, 2) if not kept(leak, alike, one)][0], walk)
        self.assertIs(least_break(keep, alike), None)
        for steps in (1, 2, 3, 4):
            self.assertTrue(all(kept(keep, alike, one) for one in walks_by_runs(keep, 2, steps)))

    def test_texts_there_and_back_answered(self):
        text = "all p all q : p~q.la,lb"
        self.assertEqual(say_text(say_in(text)), text)
        for program, told in ((self.LEAK, ["false saa,sab saa,sba", "s"]), (self.KEEP, ["true", "-"])):
            table = table_of(Program(program))
            self.assertEqual(table_in(table_text(table)), table)
            rows = [table_text(table), "bench", f"say s {text}", "told s", "broken", "undo"]
            self.assertEqual(answers("\n".join(rows)), ["done"] + told + ["yes"])

    def test_runs_that_answer_a_program(self):
        table = table_of(Program(self.LEAK))
        saying = say_in("all p some q : p~q.la,lb")
        self.assertIs(least_unanswered(table, saying), None)
        for walk in walks_by_runs(table, 1, 4):
            self.assertEqual(first_answer(table, saying, walk), answers_by_hand(table, saying, walk)[0])
        plan = plan_of(table, saying)
        for walk in itertools.islice(walks_by_runs(table, 1, 5), 20):
            answer = answer_by(table, saying, plan, [state for state, in walk])
            self.assertTrue(kept(table, saying, side_by(walk, answer)))


if __name__ == "__main__":
    unittest.main()
