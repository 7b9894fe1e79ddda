"""All consistent states and all steps of a small catalog, found by lists alone."""

from tests.small import below, close_catalogs, consistent_states


def least_of_all(states):
    """The state of a list that is below all others of it, None if there is none."""
    return next((state for state in states if all(below(state, other) for other in states)), None)


def greatest_of_all(states):
    return next((state for state in states if all(below(other, state) for other in states)), None)


def meets(state, demands):
    return all(state[module] >= version for module, version in demands)


def upper(one, other):
    return {name: max(one[name], other[name]) for name in one}


def lower(one, other):
    return {name: min(one[name], other[name]) for name in one}


class Brute:
    """What the document says of a catalog with consistent states, by the words of its definitions."""

    def __init__(self, catalog):
        self.names = catalog.modules()
        self.states = consistent_states(catalog)
        if not self.states:
            return
        self.least = least_of_all(self.states)
        self.greatest = greatest_of_all(self.states)
        # Beyond the versions that there are no demand is met.
        demands = [(name, version) for name in self.names for version in range(catalog.versions(name))]
        self.starts, self.ends = {}, {}
        for name, version in demands:
            if version > self.least[name] and self.least_with([(name, version)]) is not None:
                self.add(self.least_with([(name, version)]))
        self.steps = sorted(self.ends, key=self.place)

    def add(self, end):
        start = greatest_of_all([state for state in self.states if below(state, end) and state != end])
        step = tuple((name, start[name], end[name]) for name in self.names if start[name] != end[name])
        self.starts[step], self.ends[step] = start, end

    def place(self, step):
        return (self.names.index(step[0][0]), step[0][2])

    def least_with(self, demands):
        return least_of_all([state for state in self.states if meets(state, demands)])

    def greatest_with(self, module, version):
        return greatest_of_all([state for state in self.states if state[module] <= version])

    def needs(self, step):
        return [other for other in self.steps if other != step and below(self.ends[other], self.ends[step])]

    def direct_needs(self, step):
        return [other for other in self.needs(step) if not any(other in self.needs(third) for third in self.needs(step))]

    def needed_by(self, step):
        return [other for other in self.steps if step in self.needs(other)]

    def done(self, state):
        return [step for step in self.steps if below(self.ends[step], state)]

    def available(self, state):
        done = self.done(state)
        return [step for step in self.steps if step not in done and all(other in done for other in self.needs(step))]

    def between(self, one, other):
        return [step for step in self.done(other) if step not in self.done(one)]

    def target(self, state, goals):
        return least_of_all([other for other in self.states if meets(other, goals) and below(state, other)])

    def plan(self, state, goals):
        waiting = self.between(state, self.target(state, goals))
        found = []
        while waiting:
            found.append(next(step for step in waiting if step in self.available(state)))
            state = self.after(state, found[-1])
            waiting.remove(found[-1])
        return found

    def after(self, state, step):
        return {**state, **{name: new for name, old, new in step}}

    def covers(self, state):
        """The consistent states above this one with no consistent state between the two."""
        above = [other for other in self.states if below(state, other) and other != state]
        return [other for other in above if not any(below(third, other) and third != other for third in above)]


def rich_catalogs(count, seed):
    """So many catalogs with several steps, each with the lists of its states and steps."""
    found = [(catalog, Brute(catalog)) for catalog in close_catalogs(count * 3, seed, 4, 5)]
    return [(catalog, brute) for catalog, brute in found if brute.states and len(brute.steps) > 4][:count]
