"""[0.2], [0.3], [3.1] to [5.3]: whole runs of a process beside those of the plain model."""

import itertools
import random
import unittest

from scopebind.process import Process
from tests.chance import chance_process, chance_step, chance_store, taken
from tests.model import Model, state_of, state_of_model
from tests.samples import words


def model_start(store, main, *, preloads=()):
    return Model(store, main, preloads)


def both_started(seed, many=6, symbols=4):
    """Return a store, a process and a model of it that started alike, and the lot."""
    rng = random.Random(seed)
    store = chance_store(rng, many, symbols)
    process = chance_process(random.Random(seed), store, Process, 0)
    model = chance_process(random.Random(seed), store, model_start, 0)
    return rng, store, process, model


class RunTest(unittest.TestCase):
    def test_every_step_beside_the_model(self):
        for seed in range(150):
            rng, store, process, model = both_started(seed)
            if process is None:
                self.assertIsNone(model)
                continue
            with self.subTest(seed):
                self.assertEqual(state_of(process), state_of_model(model))
                for _ in range(25):
                    step = chance_step(rng, store, process)
                    self.assertEqual(taken(process, step), taken(model, step), step)
                    self.assertEqual(state_of(process), state_of_model(model), step)

    def test_after_find_and_goes_beside_the_model(self):
        for seed in range(1000, 1080):
            rng, store, process, model = both_started(seed)
            if process is None:
                continue
            with self.subTest(seed):
                for _ in range(15):
                    step = chance_step(rng, store, process)
                    self.assertEqual(taken(process, step), taken(model, step))
                handles = [handle for handle, _ in process.handles()]
                for symbol in words(5):
                    for name in process.loaded():
                        self.assertEqual(process.after(name, symbol), model.after(name, symbol))
                    for handle in [0] + handles:
                        self.assertEqual(process.find(handle, symbol), model.find(handle, symbol))
                for many in range(3):
                    for some in itertools.permutations(handles[:5], many):
                        self.assertEqual(process.goes(some), model.goes(some))

    def test_exactly_what_is_held_is_loaded_after_every_close(self):
        for seed in range(2000, 2060):
            rng, store, process, model = both_started(seed)
            if process is None:
                continue
            for _ in range(30):
                taken(process, chance_step(rng, store, process))
                bound = process.bindings()
                held = model.fixed + [root for _, root in process.handles()]
                for name in held:
                    leads = list(store[name].needs) + [use[2] for use in bound if use[0] == name]
                    held += [other for other in dict.fromkeys(leads) if other not in held]
                self.assertEqual(sorted(set(held)), process.loaded())

    def test_a_bound_use_never_changes_its_target(self):
        for seed in range(3000, 3060):
            rng, store, process, _ = both_started(seed)
            if process is None:
                continue
            known = {}
            for _ in range(30):
                taken(process, chance_step(rng, store, process))
                now = {use[:2]: use[2] for use in process.bindings()}
                for use in known:
                    if use[0] in process and use in now:
                        self.assertEqual(now[use], known[use])
                for use in now:
                    self.assertEqual(process.target(*use), now[use])
                    self.assertIn(now[use], process)
                # A library may be unloaded and loaded again: only what is bound without a gap is compared.
                known = now

    def test_a_failed_step_changes_nothing(self):
        for seed in range(4000, 4060):
            rng, store, process, _ = both_started(seed)
            if process is None:
                continue
            for _ in range(30):
                before = state_of(process)
                told = taken(process, chance_step(rng, store, process))
                if isinstance(told, tuple):
                    self.assertEqual(state_of(process), before)

    def test_a_copy_goes_its_own_way(self):
        for seed in range(5000, 5050):
            rng, store, process, model = both_started(seed)
            if process is None:
                continue
            for _ in range(10):
                step = chance_step(rng, store, process)
                taken(process, step)
                taken(model, step)
            twin = process.copy()
            self.assertEqual(state_of(twin), state_of(process))
            for _ in range(10):
                taken(twin, chance_step(rng, store, twin))
                self.assertEqual(state_of(process), state_of_model(model))
            twin = process.copy()
            for _ in range(10):
                step = chance_step(rng, store, process)
                self.assertEqual(taken(process, step), taken(model, step))
                self.assertEqual(state_of(process), state_of_model(model))
            before = state_of(twin)
            self.assertEqual(state_of(twin), before)


if __name__ == "__main__":
    unittest.main()
