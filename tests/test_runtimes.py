import unittest
from collections import Counter

from groupsteps.catalogs import catalog_of
from groupsteps.errors import (InUse, InvalidCount, InvalidName, InvalidWindows, NameTaken, NothingToUndo, NotRising,
                               TooMany, UnknownModule, UnknownSession, UnknownVersion)
from groupsteps.least import greatest_state
from groupsteps.runtimes import Runtime
from groupsteps.steps import all_steps
from groupsteps.systems import System
from tests.record import RUNTIME_CALLS, Arguments, Record, call, compare_call, drive, seen
from tests.small import Numbers, doc_catalog, own_conflicts
from tests.support import wrong_kinds
from tests.test_steps import StepCase, large_catalog
from tests.test_systems import CORE, HIGH, LOW, SHELL, STORE, catalogs_with_states

# Many calls are refused by names that do not exist, few by the rest.
RARELY_REFUSED = {"pin", "unpin", "retreat"}


def busy():
    """A runtime in which everything is set."""
    runtime = Runtime(doc_catalog())
    runtime.begin("y")
    runtime.perform(SHELL)
    runtime.begin("x")
    runtime.perform(CORE)
    runtime.add_goal("ann", "store", 1)
    runtime.pin("shell", 1)
    runtime.session_limit = 3
    runtime.publish("shell", [(2, None)])
    return runtime


def random_runtime(case, seed, catalog, count):
    """A runtime and its record after so many calls at random."""
    runtime, record = Runtime(catalog), Record(catalog, runtime=True)
    drive(case, runtime, record, Numbers(seed), RUNTIME_CALLS, count)
    return runtime, record


class AtRandom(StepCase):
    def test_sequences_of_calls(self):
        done, refused = Counter(), Counter()
        for seed, (catalog, brute) in enumerate(catalogs_with_states(60, 61)):
            numbers = Numbers(seed)
            state = brute.states[numbers.below(len(brute.states))] if numbers.below(2) else None
            runtime, record = Runtime(catalog, state), Record(catalog, state, runtime=True)
            made = drive(self, runtime, record, numbers, RUNTIME_CALLS, 70)
            done.update(entry[0] for entry, was_done in made if was_done)
            refused.update(entry[0] for entry, was_done in made if not was_done)
        for word in RUNTIME_CALLS:
            self.assertGreater(done[word], 30, word)
            self.assertGreater(refused[word], 2 if word in RARELY_REFUSED else 20, word)

    def test_the_states_of_all_sessions_are_consistent_at_any_time(self):
        apart = 0
        for seed, (catalog, brute) in enumerate(catalogs_with_states(30, 62)):
            runtime, record = Runtime(catalog), Record(catalog, runtime=True)
            arguments = Arguments(Numbers(seed), record)
            for number in range(60):
                compare_call(self, runtime, record, arguments.entry(RUNTIME_CALLS))
                states = [runtime.session_state(session) for session in runtime.sessions()]
                for state in [runtime.state(), *states]:
                    self.assertEqual(own_conflicts(runtime.catalog(), state), [])
                apart += any(state != runtime.state() for state in states)
        self.assertGreater(apart, 300)

    def test_publications_change_no_step_and_withdrawals_no_running_state(self):
        published = withdrawn = 0
        for seed, (catalog, brute) in enumerate(catalogs_with_states(40, 63)):
            runtime, record = Runtime(catalog), Record(catalog, runtime=True)
            arguments = Arguments(Numbers(seed), record)
            for number in range(40):
                before, state = all_steps(runtime.catalog()), runtime.state()
                entry = arguments.entry(RUNTIME_CALLS)
                if not compare_call(self, runtime, record, entry):
                    continue
                if entry[0] == "publish":
                    published += 1
                    self.assertEqual([step for step in all_steps(runtime.catalog()) if step in before], before)
                if entry[0] in ("publish", "withdraw"):
                    withdrawn += entry[0] == "withdraw"
                    self.assertSame(runtime.state(), state)
        self.assertGreater(published, 30)
        self.assertGreater(withdrawn, 30)


class Sessions(StepCase):
    def test_they_begin_with_the_running_state_and_keep_it(self):
        runtime = Runtime(doc_catalog(), {"shell": 1, "store": 0, "core": 0})
        self.assertIs(runtime.begin("x"), None)
        self.assertSame(runtime.session_state("x"), {"core": 0, "store": 0, "shell": 1})
        runtime.perform(CORE)
        runtime.add_goal("ann", "store", 1)
        runtime.run("ann")
        runtime.undo()
        runtime.begin("abcdefgh")
        self.assertSame(runtime.session_state("x"), {"core": 0, "store": 0, "shell": 1})
        self.assertSame(runtime.session_state("abcdefgh"), {"core": 1, "store": 0, "shell": 1})
        self.assertSame(runtime.sessions(), ["abcdefgh", "x"])
        self.assertIs(runtime.finish("x"), None)
        self.assertSame(runtime.sessions(), ["abcdefgh"])
        self.assertSame(runtime.entries()[-3:], [("undo", 1), ("begin", "abcdefgh"), ("finish", "x")])

    def test_no_name(self):
        runtime = busy()
        for value in [*wrong_kinds(), "", "X", "abcdefghi", "a b", "x\n"]:
            self.assertFails(InvalidName, {"value": value}, runtime.begin, value)
        self.assertSame(seen(runtime), seen(busy()))

    def test_which_error_comes_first(self):
        runtime = Runtime(doc_catalog())
        runtime.session_limit = 1
        runtime.begin("x")
        self.assertFails(InvalidName, {"value": "X"}, runtime.begin, "X")
        self.assertFails(NameTaken, {"value": "x"}, runtime.begin, "x")
        self.assertFails(TooMany, {"kind": "sessions", "limit": 1}, runtime.begin, "y")

    def test_no_session(self):
        runtime = busy()
        for value in [*wrong_kinds(), "", "z", "X", b"x", "ann"]:
            for method in [runtime.finish, runtime.session_state, runtime.advance]:
                self.assertFails(UnknownSession, {"value": value}, method, value)
            self.assertFails(UnknownSession, {"value": value}, runtime.talk, value, "x")
            self.assertFails(UnknownSession, {"value": value}, runtime.talk, "x", value)
            self.assertFails(UnknownSession, {"value": value}, runtime.talk, value, "nobody")
        self.assertSame(seen(runtime), seen(busy()))

    def test_a_finished_name_can_begin_again(self):
        runtime = Runtime(doc_catalog())
        runtime.begin("x")
        runtime.finish("x")
        self.assertFails(UnknownSession, {"value": "x"}, runtime.finish, "x")
        runtime.perform(CORE)
        runtime.begin("x")
        self.assertSame(runtime.session_state("x"), {"core": 1, "store": 0, "shell": 0})

    def test_advance(self):
        runtime = Runtime(doc_catalog(), {"core": 0, "store": 0, "shell": 1})
        runtime.begin("x")
        runtime.retreat("shell", 0)
        runtime.undo()
        runtime.begin("y")
        runtime.retreat("shell", 1)
        self.assertSame(runtime.session_state("x"), LOW)
        runtime.perform(CORE)
        runtime.perform(STORE)
        self.assertSame(runtime.advance("x"), [CORE, STORE, SHELL])
        self.assertSame(runtime.session_state("x"), runtime.state())
        self.assertSame(runtime.advance("x"), [])
        # After an undo a session has later versions than the running state; then it stays where it is.
        runtime.undo(count=2)
        self.assertSame(runtime.session_state("x"), {"core": 1, "store": 1, "shell": 1})
        self.assertSame(runtime.advance("x"), [])
        self.assertSame(runtime.session_state("x"), {"core": 1, "store": 1, "shell": 1})
        self.assertSame(runtime.entries()[-1], ("advance", "x"))
        self.assertSame(runtime.session_state("y"), {"core": 0, "store": 0, "shell": 1})

    def test_talk(self):
        runtime = Runtime(doc_catalog())
        runtime.perform(SHELL)
        runtime.begin("x")
        runtime.undo()
        runtime.perform(CORE)
        runtime.begin("y")
        runtime.begin("z")
        self.assertSame(runtime.talk("y", "x"), {"core": 1, "store": 0, "shell": 1})
        for session in "xy":
            self.assertSame(runtime.session_state(session), {"core": 1, "store": 0, "shell": 1})
        self.assertSame(runtime.session_state("z"), {"core": 1, "store": 0, "shell": 0})
        self.assertSame(runtime.state(), {"core": 1, "store": 0, "shell": 0})
        self.assertSame(runtime.talk("x", "x"), {"core": 1, "store": 0, "shell": 1})
        self.assertSame(runtime.entries()[-2:], [("talk", "y", "x"), ("talk", "x", "x")])
        # They have a state each, although it is the same one.
        runtime.perform(STORE)
        runtime.advance("x")
        self.assertSame(runtime.session_state("y"), {"core": 1, "store": 0, "shell": 1})

    def test_a_retreat_takes_all_sessions_back(self):
        runtime = Runtime(doc_catalog())
        runtime.begin("a")
        runtime.perform(SHELL)
        runtime.begin("b")
        runtime.perform(CORE)
        runtime.begin("c")
        runtime.perform(STORE)
        runtime.begin("d")
        self.assertSame(runtime.retreat("core", 0), [CORE, STORE])
        states = [runtime.session_state(session) for session in "abcd"]
        self.assertSame(states, [LOW, {**LOW, "shell": 1}, {**LOW, "shell": 1}, {**LOW, "shell": 1}])
        runtime.undo()
        self.assertSame([runtime.session_state(session) for session in "abcd"], states)

    def test_a_retreat_that_undoes_no_step_takes_sessions_back_too(self):
        runtime = Runtime(doc_catalog())
        runtime.perform(CORE)
        runtime.begin("x")
        runtime.undo()
        runtime.perform(SHELL)
        runtime.begin("y")
        self.assertSame(runtime.retreat("core", 2), [])
        self.assertSame(runtime.session_state("x"), LOW)
        self.assertSame(runtime.session_state("y"), {**LOW, "shell": 1})
        runtime.undo(count=2)
        self.assertSame(runtime.state(), LOW)
        self.assertSame(runtime.session_state("y"), {**LOW, "shell": 1})

    def test_a_refused_retreat_changes_no_session(self):
        catalog = catalog_of([("core", ("store",), [[(1, 1)], [(1, None)]]), ("store", (), [[], [], []])])
        runtime = Runtime(catalog)
        runtime.perform((("core", 0, 1),))
        runtime.begin("x")
        runtime.undo()
        before = seen(runtime)
        error = self.caught(runtime.retreat, "store", 0)
        self.assertSame(vars(error), {"chain": [("core", 0), ("store", 1)]})
        self.assertSame(seen(runtime), before)


class Limits(StepCase):
    def test_eight_at_first(self):
        runtime = Runtime(doc_catalog())
        self.assertSame((Runtime.MOST_SESSIONS, runtime.session_limit), (8, 8))
        for session in "abcdefgh":
            runtime.begin(session)
        self.assertFails(TooMany, {"kind": "sessions", "limit": 8}, runtime.begin, "i")
        runtime.finish("c")
        runtime.begin("i")
        self.assertSame(runtime.sessions(), list("abdefghi"))

    def test_no_session_ends_by_an_assignment(self):
        runtime = Runtime(doc_catalog())
        for session in "abc":
            runtime.begin(session)
        runtime.session_limit = 2
        self.assertSame(runtime.sessions(), list("abc"))
        self.assertFails(TooMany, {"kind": "sessions", "limit": 2}, runtime.begin, "d")
        runtime.finish("a")
        self.assertFails(TooMany, {"kind": "sessions", "limit": 2}, runtime.begin, "d")
        runtime.finish("b")
        runtime.begin("d")
        self.assertSame(runtime.sessions(), ["c", "d"])
        runtime.session_limit = 8
        self.assertSame([entry for entry in runtime.entries() if entry[0] == "limit"], [("limit", 2), ("limit", 8)])

    def test_every_limit(self):
        for limit in range(1, 9):
            runtime = Runtime(doc_catalog())
            runtime.session_limit = limit
            self.assertSame(runtime.session_limit, limit)
            for session in "abcdefgh"[:limit]:
                runtime.begin(session)
            self.assertFails(TooMany, {"kind": "sessions", "limit": limit}, runtime.begin, "i")

    def test_wrong_limits(self):
        runtime = busy()

        def assign(value):
            runtime.session_limit = value

        for value in [*wrong_kinds(), 0, 9, -3, 10 ** 59, "1"]:
            self.assertFails(InvalidCount, {"value": value}, assign, value)
        self.assertSame(seen(runtime), seen(busy()))


class Changing(StepCase):
    def test_publish(self):
        catalog = doc_catalog()
        runtime = Runtime(catalog)
        windows = [(2, None)]
        self.assertSame(runtime.publish("shell", windows), 3)
        windows.clear()
        self.assertSame(runtime.entries(), [("publish", "shell", ((2, None),))])
        self.assertSame(runtime.catalog().window("shell", "core", 3), (2, None))
        self.assertSame(runtime.catalog().history()[-1], ("publish", "shell", ((2, None),)))
        self.assertSame(runtime.progress, (0, 6))
        self.assertEqual(catalog, doc_catalog())
        self.assertEqual(runtime.start()[0], doc_catalog())

    def test_publish_raises_the_errors_of_a_catalog(self):
        runtime = busy()
        for value in [*wrong_kinds(), "log", ""]:
            self.assertFails(UnknownModule, {"value": value}, runtime.publish, value, None)
        for value in [value for value in wrong_kinds() if not isinstance(value, list)] + [[], [(2, None)] * 2]:
            self.assertFails(InvalidWindows, {"position": None}, runtime.publish, "shell", value)
        for value in [(2, 1), [2, None], (True, None), None]:
            self.assertFails(InvalidWindows, {"position": 0}, runtime.publish, "shell", [value])
        self.assertFails(NotRising, {"user": "shell", "used": "core"}, runtime.publish, "shell", [(1, None)])
        self.assertSame(seen(runtime), seen(busy()))
        for version in range(4, 16):
            self.assertSame(runtime.publish("shell", [(2, None)]), version)
        before = seen(runtime)
        self.assertFails(TooMany, {"kind": "versions", "limit": 16}, runtime.publish, "shell", [(2, None)])
        self.assertSame(seen(runtime), before)

    def test_published_versions_can_be_reached(self):
        runtime = Runtime(doc_catalog(), HIGH)
        self.assertUnreachable(runtime.catalog(), ("shell", 3), runtime.add_goal, "ann", "shell", 3)
        runtime.publish("shell", [(2, None)])
        runtime.add_goal("ann", "shell", 3)
        self.assertSame(runtime.run("ann"), [(("shell", 2, 3),)])
        self.assertSame(runtime.state(), {**HIGH, "shell": 3})
        # What was called before a publication can still be undone.
        runtime.publish("core", [(1, None)])
        runtime.undo()
        self.assertSame(runtime.state(), HIGH)

    def test_withdraw_raises(self):
        runtime = busy()
        for value in [*wrong_kinds(), "log", ""]:
            self.assertFails(UnknownModule, {"value": value}, runtime.withdraw, value, -1)
        for value in [*wrong_kinds(), "1", 3, 10 ** 59]:
            self.assertFails(UnknownVersion, {"module": "core", "version": value}, runtime.withdraw, "core", value)
        for module, version in [("core", 1), ("core", 0), ("store", 0), ("shell", 1), ("shell", 0)]:
            self.assertFails(InUse, {"module": module, "version": version}, runtime.withdraw, module, version)
        self.assertSame(seen(runtime), seen(busy()))

    def test_withdraw(self):
        runtime = Runtime(doc_catalog())
        self.assertIs(runtime.withdraw("core", 1), None)
        self.assertSame(runtime.available(), [SHELL])
        self.assertSame(runtime.progress, (0, 3))
        self.assertFails(UnknownVersion, {"module": "core", "version": 1}, runtime.withdraw, "core", 1)
        self.assertSame(runtime.entries(), [("withdraw", "core", 1)])
        self.assertEqual(runtime.start()[0], doc_catalog())

    def test_versions_in_use(self):
        runtime = Runtime(doc_catalog())
        runtime.begin("x")
        runtime.perform(CORE)
        runtime.begin("y")
        self.assertSame([runtime.running(module) for module in ["core", "store", "shell"]], [[0, 1], [0], [0]])
        runtime.undo()
        self.assertSame(runtime.running("core"), [0, 1])
        self.assertFails(InUse, {"module": "core", "version": 1}, runtime.withdraw, "core", 1)
        runtime.finish("y")
        self.assertSame(runtime.running("core"), [0])
        runtime.withdraw("core", 1)
        for value in [*wrong_kinds(), "log", ""]:
            self.assertFails(UnknownModule, {"value": value}, runtime.running, value)

    def test_undo_after_a_withdrawal(self):
        runtime = Runtime(doc_catalog())
        runtime.perform(SHELL)
        runtime.perform(CORE)
        runtime.withdraw("shell", 2)
        before = seen(runtime)
        self.assertFails(NothingToUndo, {}, runtime.undo)
        self.assertSame(seen(runtime), before)
        runtime.perform(STORE)
        self.assertFails(NothingToUndo, {}, runtime.undo, count=2)
        runtime.undo()
        self.assertSame(runtime.state(), {"core": 1, "store": 0, "shell": 1})
        # A withdrawal that is refused leaves what can be undone.
        runtime.perform(STORE)
        self.assertFails(InUse, {"module": "store", "version": 1}, runtime.withdraw, "store", 1)
        runtime.undo()

    def test_goals_stay_after_a_withdrawal(self):
        runtime = Runtime(doc_catalog())
        runtime.add_goal("ann", "shell", 2)
        runtime.add_goal("ann", "store", 1)
        runtime.add_goal("bob", "core", 2)
        runtime.withdraw("core", 2)
        self.assertSame(runtime.goals("ann"), [("shell", 2), ("store", 1)])
        self.assertSame(runtime.blocked("ann"), [("shell", 2)])
        self.assertSame(runtime.blocked("bob"), [("core", 2)])
        self.assertSame(runtime.plan(), [CORE, STORE])
        self.assertSame(runtime.plan(operator="bob"), [])
        self.assertSame(runtime.run("bob"), [])
        self.assertSame(runtime.run("ann"), [CORE, STORE])
        self.assertUnreachable(runtime.catalog(), ("core", 2), runtime.add_goal, "bob", "core", 2)
        # A later version makes the goals possible again.
        runtime.publish("core", [(1, None)])
        self.assertSame(runtime.blocked("bob"), [("core", 2)])
        runtime.publish("store", [(1, None)])
        self.assertSame(runtime.blocked("bob"), [])
        self.assertSame(runtime.run("bob"), [SHELL, (("core", 1, 3), ("store", 1, 2), ("shell", 1, 2))])


class Copies(StepCase):
    def test_results_are_new(self):
        runtime = busy()
        for result in [runtime.sessions(), runtime.session_state("x"), runtime.running("shell"), runtime.state(),
                       runtime.entries(), runtime.start()[1]]:
            self.assertTrue(result)
            result.clear()
        runtime.catalog().publish("store", [(1, 2)])
        runtime.start()[0].publish("store", [(1, 2)])
        self.assertSame(seen(runtime), seen(busy()))
        runtime.talk("x", "y").clear()
        runtime.advance("y").clear()
        self.assertSame(runtime.session_state("x"), {"core": 0, "store": 0, "shell": 1})
        self.assertSame(runtime.session_state("y"), {"core": 1, "store": 0, "shell": 1})

    def test_clones(self):
        for seed, (catalog, brute) in enumerate(catalogs_with_states(25, 64)):
            runtime, record = random_runtime(self, seed, catalog, 25)
            other = runtime.clone()
            self.assertIs(other.__class__, Runtime)
            self.assertTrue(runtime == other and not runtime != other)
            self.assertSame(seen(other), record.seen())
            before = seen(runtime)
            drive(self, other, record, Numbers(seed + 1), RUNTIME_CALLS, 25)
            self.assertSame(seen(runtime), before)
            self.assertSame(seen(other.clone()), record.seen())

    def test_equality(self):
        runtime = busy()
        self.assertTrue(runtime == busy())
        for entry in [("perform", STORE), ("pin", "core", 1), ("unpin", "shell"), ("undo", 1), ("drop", "ann"),
                      ("goal", "ann", "core", 1), ("retreat", "core", 0), ("begin", "z"), ("finish", "x"),
                      ("advance", "x"), ("talk", "x", "y"), ("publish", "shell", [(3, None)]), ("limit", 4),
                      ("withdraw", "store", 1)]:
            other = busy()
            call(other, entry)
            self.assertFalse(runtime == other, entry)
            self.assertTrue(runtime != other)

    def test_the_way_there_is_not_compared(self):
        catalog = doc_catalog()
        catalog.publish("shell", [(2, None)])
        other = Runtime(catalog, {"core": 1, "store": 0, "shell": 1})
        for entry in [("pin", "shell", 1), ("goal", "ann", "store", 1), ("begin", "x"), ("retreat", "core", 0),
                      ("begin", "y"), ("retreat", "shell", 0), ("finish", "x"), ("undo", 1), ("begin", "x"), ("undo", 1),
                      ("limit", 3)]:
            call(other, entry)
        self.assertTrue(busy() == other)
        self.assertNotEqual(len(busy()), len(other))

    def test_other_values(self):
        runtime = Runtime(doc_catalog())
        self.assertFalse(runtime == System(doc_catalog()))
        self.assertFalse(System(doc_catalog()) == runtime)
        for value in [None, 0, "", LOW, doc_catalog(), Runtime, []]:
            self.assertFalse(runtime == value)
            self.assertTrue(runtime != value)

    def test_a_runtime_is_a_system(self):
        runtime = busy()
        self.assertIsInstance(runtime, System)
        self.assertSame(repr(runtime), "Runtime(core=1 store=0 shell=1)")
        self.assertSame((str(runtime), len(runtime)), ("core=1 store=0 shell=1", 8))

    def test_runtimes_are_independent(self):
        catalog = doc_catalog()
        one, other = Runtime(catalog), Runtime(catalog)
        one.begin("x")
        one.session_limit = 2
        one.publish("shell", [(2, None)])
        one.withdraw("core", 1)
        self.assertSame(seen(other), seen(Runtime(doc_catalog())))
        catalog.withdraw("core", 2)
        self.assertSame(seen(other), seen(Runtime(doc_catalog())))

    def test_arguments_by_name(self):
        runtime = Runtime(catalog=doc_catalog(), state=LOW)
        runtime.begin(session="x")
        runtime.begin(session="y")
        self.assertSame(runtime.talk(one="x", other="y"), LOW)
        self.assertSame(runtime.advance(session="x"), [])
        self.assertSame(runtime.session_state(session="x"), LOW)
        self.assertSame(runtime.publish(module="shell", windows=[(2, None)]), 3)
        self.assertIs(runtime.withdraw(module="shell", version=3), None)
        self.assertSame(runtime.running(module="core"), [0])
        runtime.finish(session="y")
        self.assertSame(runtime.retreat(module="core", version=0), [])
        self.assertSame(runtime.sessions(), ["x"])


class Large(StepCase):
    def test_a_large_runtime(self):
        catalog = large_catalog(2, 1)
        runtime = Runtime(catalog)
        high = greatest_state(catalog)
        for place, module in enumerate(catalog.modules()[:8]):
            runtime.begin("s" + "abcdefgh"[place])
            runtime.add_goal("ann", module, high[module] // 2)
            runtime.run("ann")
        for session in runtime.sessions():
            runtime.advance(session)
            self.assertSame(runtime.session_state(session), runtime.state())
        undone = runtime.retreat("ma", 0)
        self.assertTrue(undone)
        for session in runtime.sessions():
            self.assertSame(runtime.session_state(session), runtime.state())
        self.assertEqual(runtime.clone(), runtime)


if __name__ == "__main__":
    unittest.main()
