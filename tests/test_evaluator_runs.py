"""Single runs of evaluators, reading by reading: points 13 to 17."""

import unittest

from midfall.errors import CallFailed, UnknownPlace, UnknownProcedure
from midfall.evaluators import Evaluator
from midfall.namesets import NameSet
from midfall.plain import plain_result
from midfall.policies import CarefulPolicy, EagerPolicy, TrailPolicy
from midfall.programs import Program
from midfall.results import Result

CAREFUL, TRAIL, EAGER = CarefulPolicy(), TrailPolicy(), EagerPolicy()
NAMES = [chr(ord("a") + number) for number in range(16)]


class RunCase(unittest.TestCase):
    def evaluator(self, text, policy=CAREFUL, **numbers):
        return Evaluator(Program.parse(text), policy=policy, numbers=numbers)

    def assert_run(self, evaluator, name, broken, text, cached, readings=None):
        """Run a procedure that returns the result with the text."""
        result = evaluator.run(name, broken=list(broken))
        self.assertIsInstance(result, Result)
        self.assertEqual(result.text(), text)
        self.assertEqual(evaluator.cached.members, tuple(cached))
        if readings is not None:
            self.assert_readings(evaluator, readings)

    def assert_failed(self, evaluator, name, broken, path, place, cached, readings=None):
        """Run a procedure that fails."""
        with self.assertRaises(CallFailed) as context:
            evaluator.run(name, broken=list(broken))
        self.assertEqual(vars(context.exception), vars(CallFailed(name, tuple(path), place)))
        self.assertEqual(evaluator.cached.members, tuple(cached))
        self.assertIs(evaluator.calm, False)
        if readings is not None:
            self.assert_readings(evaluator, readings)

    def assert_readings(self, evaluator, readings):
        """The readings are written `zd wc`: z reads d, then w reads c."""
        self.assertEqual(evaluator.readings, tuple(tuple(pair) for pair in readings.split()))


class RulesTest(RunCase):
    def test_what_is_cached_is_not_read_again(self):
        for policy in (CAREFUL, TRAIL, EAGER):
            evaluator = self.evaluator("p: call q, read c\nq: read d", policy, d=5)
            self.assert_run(evaluator, "q", "", "0: 5", "q", "qd")
            self.assert_run(evaluator, "p", "d", "0: @1 0\n1: 5", "pq", "pc")
            self.assert_run(evaluator, "p", "cd", "0: @1 0\n1: 5", "pq", "")
            self.assertIs(evaluator.calm, True)

    def test_the_node_of_an_open_call(self):
        for policy in (CAREFUL, TRAIL, EAGER):
            evaluator = self.evaluator("p: call q, say x\nq: try p, call q, read d", policy)
            self.assert_run(evaluator, "p", "", "0: @1 x\n1: @0 @1 0", "pq", "qd")
            evaluator = self.evaluator("p: call p, try p", policy)
            self.assert_run(evaluator, "p", "", "0: @0 @0", "p", "")

    def test_a_completed_call_is_not_repeated(self):
        for policy in (CAREFUL, TRAIL, EAGER):
            evaluator = self.evaluator("p: call q, try q, call r\nq: read d\nr: call q, read d", policy)
            self.assert_run(evaluator, "p", "", "0: @1 @1 @2\n1: 0\n2: @1 0", "pqr", "qd rd")

    def test_a_place_that_is_read_twice_in_one_body(self):
        evaluator = self.evaluator("p: read d, read c, read d", d=1, c=2)
        self.assert_run(evaluator, "p", "", "0: 1 2 1", "p", "pd pc pd")
        self.assert_failed(self.evaluator("p: read d, read c, read d"), "p", "c", "p", "c", "", "pd pc")

    def test_a_call_that_has_failed_fails_again(self):
        for policy in (CAREFUL, TRAIL, EAGER):
            evaluator = self.evaluator("p: try q, try q, try r, call s\nq: say x, read d\nr: call q\ns: read c", policy)
            self.assert_run(evaluator, "p", "d", "0: - - - @1\n1: 0", "s" if policy == CAREFUL else "", "qd")
            evaluator = self.evaluator("p: try q, call q\nq: read d", policy)
            self.assert_failed(evaluator, "p", "d", "pq", "d", "", "qd")
            self.assert_run(evaluator, "p", "", "0: @1 @1\n1: 0", "pq", "qd")

    def test_a_dropped_node_is_asked_for_again(self):
        """w completes while q is open; it is dropped as q fails, and then fails itself."""
        for policy in (CAREFUL, TRAIL, EagerPolicy(["w"])):
            evaluator = self.evaluator("p: try q, call w\nq: call w, read d\nw: call q", policy)
            self.assert_failed(evaluator, "p", "d", "pwq", "d", "", "qd")

    def test_a_dropped_node_is_made_anew(self):
        for policy in (CAREFUL, TRAIL, EagerPolicy(["n"]), EagerPolicy(["n", "p", "z"])):
            evaluator = self.evaluator("p: try z, call n\nz: call n, read d\nn: try z", policy)
            self.assert_run(evaluator, "p", "d", "0: - @1\n1: -", "", "zd")

    def test_a_node_that_leads_to_no_failed_call_is_not_dropped(self):
        """w leads to p, whose call is open; z alone fails."""
        text = "p: call w, try z, call w, try v\nw: call p\nz: read d\nv: call w, read c"
        for policy in (CAREFUL, TRAIL, EagerPolicy(["w"])):
            self.assert_run(self.evaluator(text, policy), "p", "d", "0: @1 - @1 @2\n1: @0\n2: @1 0", "", "zd")

    def test_several_calls_fail_one_after_another(self):
        """a leads to c, b to q: a is dropped as c fails, b as q fails."""
        text = "p: try q, try a, try b\nq: call b, call c\nb: try q\nc: call a, read d\na: try c, call b"
        for policy in (CAREFUL, TRAIL, EagerPolicy(["a", "b"])):
            evaluator = self.evaluator(text, policy)
            self.assert_run(evaluator, "p", "d", "0: - @1 @2\n1: - @2\n2: -", "", "cd")

    def test_a_try_that_is_being_executed_is_no_item(self):
        """While z reads, q has no item yet that leads to it: w leads to q alone and stays."""
        text = "p: call q, say x\nq: call w, try z, call w\nw: call q\nz: read d"
        for policy in (CAREFUL, TRAIL, EagerPolicy(["w"])):
            self.assert_run(self.evaluator(text, policy), "p", "d", "0: @1 x\n1: @2 - @2\n2: @1", "", "zd")


class CarefulTest(RunCase):
    def test_sound_nodes_are_cached_when_the_run_returns(self):
        text = "p: call a, try z, call b, call w\na: read c\nz: call a, read d\nb: say x\nw: call p"
        evaluator = self.evaluator(text)
        self.assert_run(evaluator, "p", "d", "0: @1 - @2 @3\n1: 0\n2: x\n3: @0", "ab", "ac zd")
        self.assert_run(evaluator, "p", "", "0: @1 @2 @3 @4\n1: 0\n2: @1 0\n3: x\n4: @0", "abpwz", "zd")

    def test_sound_nodes_are_cached_when_the_run_raises(self):
        text = "p: call a, call w, call b, read d, call e\na: read c\nw: call p\nb: say x\ne: say y"
        self.assert_failed(self.evaluator(text), "p", "d", "p", "d", "ab", "ac pd")

    def test_a_ring_is_sound_only_when_its_calls_have_completed(self):
        text = "p: call q\nq: call r, try z\nr: call p, call q\nz: read d"
        self.assert_run(self.evaluator(text), "p", "", "0: @1\n1: @2 @3\n2: @0 @1\n3: 0", "pqrz")
        self.assert_run(self.evaluator(text), "p", "d", "0: @1\n1: @2 -\n2: @0 @1", "")

    def test_a_node_that_is_not_sound_is_used_but_leads_to_no_other_one(self):
        evaluator = self.evaluator("p: call w, try z\nw: call p\nz: read d", EAGER, d=5)
        self.assert_run(evaluator, "p", "d", "0: @1 -\n1: @0", "w", "zd")
        for policy in (CAREFUL, TRAIL):
            other = evaluator.copy()
            other.policy = policy
            text = "0: @1 @2\n1: @3\n2: 5\n3: @1 -"
            self.assert_run(other, "p", "", text, "wz" if policy == CAREFUL else "pwz", "zd")
            self.assertEqual(other.wrong().members, ("p", "w"))


class TrailTest(RunCase):
    def test_what_the_run_has_cached_is_removed_when_a_reading_fails(self):
        evaluator = self.evaluator("p: call a, try b, call c\na: read c\nb: read d\nc: say x", TRAIL, d=4)
        self.assert_run(evaluator, "p", "d", "0: @1 - @2\n1: 0\n2: x", "", "ac bd")
        self.assert_run(evaluator, "p", "", "0: @1 @2 @3\n1: 0\n2: 4\n3: x", "abcp", "ac bd")

    def test_what_was_cached_before_stays(self):
        evaluator = self.evaluator("p: call a, call b, try c\na: read c\nb: read b\nc: read d", TRAIL)
        evaluator.run("a")
        self.assert_run(evaluator, "p", "d", "0: @1 @1 -\n1: 0", "a", "bb cd")

    def test_nodes_are_cached_before_the_run_ends(self):
        evaluator = self.evaluator("p: call a, call w\na: read c\nw: call p", TRAIL)
        self.assert_run(evaluator, "p", "", "0: @1 @2\n1: 0\n2: @0", "apw")

    def test_a_run_that_raises(self):
        evaluator = self.evaluator("p: call a, read d\na: read c", TRAIL)
        self.assert_failed(evaluator, "p", "d", "p", "d", "", "ac pd")
        evaluator.run("a")
        self.assert_failed(evaluator, "p", "d", "p", "d", "a", "pd")

    def test_two_readings_fail(self):
        evaluator = self.evaluator("p: call a, try b, call a, try c\na: say x\nb: read d\nc: call a, read d", TRAIL)
        self.assert_run(evaluator, "p", "d", "0: @1 - @1 -\n1: x", "", "bd")


class EagerTest(RunCase):
    def test_marked_nodes_that_lead_to_an_open_call_are_removed(self):
        text = "p: call a, call v, call w, try z, call e\na: say x\nv: call p\nw: call p\nz: read d\ne: say y"
        rows = "0: @1 @2 @2 - @3\n1: x\n2: @0\n3: y"
        for marks, cached in (("", "avw"), ("a", "avw"), ("w", "av"), ("vw", "a"), ("avwpz", "a")):
            self.assert_run(self.evaluator(text, EagerPolicy(list(marks))), "p", "d", rows, cached, "zd")

    def test_the_call_that_reads_is_open(self):
        text = "p: try q, say x\nq: call w, read d\nw: call q"
        self.assert_run(self.evaluator(text, EagerPolicy(["w"])), "p", "d", "0: - x", "", "qd")
        self.assert_run(self.evaluator(text, EAGER), "p", "d", "0: - x", "w", "qd")

    def test_a_node_that_is_cut_short(self):
        evaluator = self.evaluator("p: try q, call w\nq: call w, say x, read d\nw: call q", EAGER, d=4)
        self.assert_run(evaluator, "p", "d", "0: - @1\n1: @2\n2: @1 x", "w", "qd")
        self.assertEqual(evaluator.peek("w").text(), "0: @1\n1: @0 x")
        self.assertEqual(evaluator.wrong().members, ("p", "q", "w"))
        self.assert_run(evaluator, "q", "", "0: @1 x 4\n1: @2\n2: @1 x", "qw", "qd")
        self.assert_run(evaluator, "w", "", "0: @1\n1: @0 x", "qw", "")
        self.assertEqual(plain_result(evaluator.program, "w", numbers={"d": 4}).text(), "0: @1\n1: @0 x 4")
        self.assertEqual(evaluator.wrong().members, ("p", "q", "w"))

    def test_an_open_call_that_completes_later_with_more_items(self):
        evaluator = self.evaluator("p: call w, say x, read d, say y\nw: call p", EAGER)
        self.assert_run(evaluator, "p", "", "0: @1 x 0 y\n1: @0", "pw")
        self.assertEqual(evaluator.peek("w").text(), "0: @1\n1: @0 x 0 y")

    def test_nothing_is_cached_behind_a_reading_that_fails(self):
        evaluator = self.evaluator("p: try z, call a\nz: read d\na: read c", EAGER)
        self.assert_run(evaluator, "p", "d", "0: - @1\n1: 0", "", "zd")

    def test_what_was_cached_before_stays_although_it_is_marked(self):
        evaluator = self.evaluator("p: call w, try z\nw: call p\nz: read d", EAGER)
        evaluator.run("p", broken=["d"])
        evaluator.policy = EagerPolicy(["w"])
        self.assert_run(evaluator, "p", "d", "0: @1 -\n1: @0", "w", "zd")


class FailedTest(RunCase):
    def test_the_path_is_that_of_the_plain_run(self):
        text = "p: call q, call r\nq: call s\nr: read d, read c\ns: read d"
        for policy in (CAREFUL, TRAIL, EAGER):
            self.assert_failed(self.evaluator(text, policy), "p", "dc", "pr", "d", "", "sd")
            self.assert_failed(self.evaluator(text, policy), "p", "c", "pr", "c",
                               "" if policy == TRAIL else "qs", "sd rd rc")

    def test_what_was_cached_when_the_run_started_is_spared(self):
        evaluator = self.evaluator("p: call a, call b\na: call c\nb: call c\nc: call a, read d", EAGER)
        self.assert_failed(evaluator, "c", "d", "c", "d", "a", "cd")
        self.assert_failed(evaluator, "p", "d", "pbc", "d", "a", "cd")

    def test_what_is_cached_in_the_run_is_not_spared(self):
        text = "p: call b, call a\nb: call e\ne: call c\nc: call a, read d\na: call c"
        self.assert_failed(self.evaluator(text, EAGER), "p", "d", "pac", "d", "a", "cd")

    def test_a_run_that_returns_though_the_plain_run_fails(self):
        program = Program.parse("q: call w, read d\nw: call q\np: call q, call w")
        evaluator = Evaluator(program, policy=EAGER)
        with self.assertRaises(CallFailed):
            evaluator("p", ["d"])
        self.assertEqual(evaluator("w", ["d"]).text(), "0: @0")
        with self.assertRaises(CallFailed):
            plain_result(program, "w", broken=["d"])

    def test_all_places_are_broken(self):
        text = "p: try a, try b\na: read c, read d\nb: read d"
        for policy in (CAREFUL, TRAIL, EAGER):
            self.assert_run(self.evaluator(text, policy), "p", "cd", "0: - -", "", "ac")


class StateTest(RunCase):
    def test_readings_and_calm(self):
        evaluator = self.evaluator("p: read d, try z, read c\nz: read c, read e\ny: say x")
        self.assert_run(evaluator, "p", "", "0: 0 @1 0\n1: 0 0", "pz", "pd zc ze pc")
        self.assertIs(evaluator.calm, True)
        evaluator["e"] = 1
        self.assert_run(evaluator, "p", "e", "0: 0 - 0", "", "pd zc ze")
        self.assertIs(evaluator.calm, False)
        self.assert_run(evaluator, "y", "cde", "0: x", "y", "")
        self.assertIs(evaluator.calm, True)
        self.assertIsInstance(evaluator.readings, tuple)

    def test_a_refused_run_changes_nothing(self):
        for policy in (CAREFUL, TRAIL, EAGER):
            evaluator = self.evaluator("p: call a, try z\na: read c\nz: read d", policy)
            evaluator.run("p", broken=["d"])
            before, readings = evaluator.copy(), evaluator.readings
            for name, broken, expected in (
                ("zz", [], UnknownProcedure("zz")), ("d", ["zz"], UnknownProcedure("d")),
                ("", [], UnknownProcedure("")), ("p", ["d", "zz", "p"], UnknownPlace("p")),
                ("a", ["x", "", "zz"], UnknownPlace("")), ("p", NameSet(["c", "w"]), UnknownPlace("w")),
            ):
                for run in (lambda: evaluator.run(name, broken=broken), lambda: evaluator(name, broken)):
                    with self.assertRaises(type(expected)) as context:
                        run()
                    self.assertEqual(vars(context.exception), vars(expected))
            self.assertEqual(evaluator, before)
            self.assertEqual((evaluator.readings, evaluator.calm), (readings, False))

    def test_a_call_of_the_evaluator(self):
        for broken in (["d", "c", "d"], ("c", "d"), NameSet(["d", "c"])):
            one = self.evaluator("p: try a, try z, say x\na: read c\nz: read d")
            other = one.copy()
            results = [one.run("p", broken=broken), other("p", broken)]
            self.assertEqual([result.text() for result in results], ["0: - - x"] * 2)
            self.assertEqual((one, one.readings), (other, other.readings))
            self.assertEqual(one("p", broken=broken).text(), "0: - - x")
            self.assertEqual(one("p").text(), "0: @1 @1 x\n1: 0")
        with self.assertRaises(CallFailed) as context:
            self.evaluator("p: read d")("p", ["d"])
        self.assertEqual(context.exception.path, ("p",))
        with self.assertRaises(TypeError):
            self.evaluator("p: read d").run("p", ["d"])

    def test_arguments_stay_and_later_changes_have_no_effect(self):
        evaluator = self.evaluator("p: call a, try z\na: read c\nz: read d", EAGER)
        broken = ["d", "d"]
        result = evaluator.run("p", broken=broken)
        self.assertEqual(broken, ["d", "d"])
        broken.clear()
        self.assertEqual((result.text(), evaluator.calm), ("0: @1 -\n1: 0", False))

    def test_a_result_stays_whatever_the_evaluator_does(self):
        evaluator = self.evaluator("p: call w, try z\nw: call p\nz: read d", EAGER, d=1)
        result, peeked = evaluator.run("p", broken=["d"]), evaluator.peek("w")
        before = result.text(), peeked.text()
        evaluator.run("p")
        evaluator["d"] = 2
        evaluator.run("p")
        evaluator.use(CAREFUL)
        self.assertEqual((result.text(), peeked.text()), before)
        result.rows()[0].clear()
        evaluator.peek("w").rows()[0].clear()
        self.assertEqual(evaluator.run("w").text(), "0: @1\n1: @0 @2\n2: 2")


class RingTest(RunCase):
    def ring(self, policy, last):
        steps = [(name, [("call", after)]) for name, after in zip(NAMES, NAMES[1:])]
        return Evaluator(Program(steps + [("p", [("call", "a"), ("try", "p"), *last])]), policy=policy)

    def test_a_ring_of_sixteen(self):
        for policy in (CAREFUL, TRAIL, EAGER, EagerPolicy(NAMES)):
            evaluator = self.ring(policy, [("read", "d")])
            result = evaluator.run("a")
            self.assertEqual(len(evaluator), 16)
            self.assertEqual(len(result.rows()), 16)
            self.assertEqual(result.rows()[15], [("node", 0), ("node", 15), ("number", 0)])
            evaluator["d"] = 1
            self.assertEqual(len(evaluator), 0)
            self.assert_failed(evaluator, "a", "d", NAMES, "d", "", "pd")

    def test_a_ring_of_sixteen_that_leads_to_an_open_call(self):
        for policy, cached in ((CAREFUL, ""), (TRAIL, ""), (EAGER, NAMES[1:]), (EagerPolicy(NAMES), ""),
                               (EagerPolicy(["c", "p"]), NAMES[1:2] + NAMES[3:15])):
            program = Program([("a", [("call", "b"), ("read", "d")])] + [
                (name, [("call", after)]) for name, after in zip(NAMES[1:], NAMES[2:])] + [("p", [("call", "a")])])
            evaluator = Evaluator(program, policy=policy)
            self.assert_failed(evaluator, "a", "d", "a", "d", cached, "ad")
            self.assertEqual(evaluator.wrong().members, tuple(NAMES) if cached else ())


if __name__ == "__main__":
    unittest.main()
