"""A market by the words of [54] to [63], on sets and dicts, and chosen events for it."""

from tests.samples import HUGE, ITEMS, PEOPLE, all_steps, distances, handed, least_width


class Model:
    def __init__(self, accepts, holding, sizes, goal):
        self.wants = set(accepts)
        self.holds = dict(holding)
        self.sizes = sizes
        self.goal = goal
        self.events = []
        self.begin = ("market", accepts, holding, sizes, goal)

    def accepts(self):
        return tuple(sorted(self.wants))

    def holding(self):
        return tuple(sorted(self.holds.items()))

    def reason(self, event):
        """Why an event by kind is not applied, or None."""
        people = {person for person, item in self.wants}
        items = {item for person, item in self.wants}
        if len(self.events) >= 60:
            return "full"
        return getattr(self, "reason_of_" + event[0])(people, items, *event[1:])

    def reason_of_trade(self, people, items, ring):
        if set(ring) - people:
            return "person"
        if len(ring) not in self.sizes:
            return "size"
        after = handed(self.holds.items(), ring)
        return None if set(after.items()) <= self.wants else "accept"

    def reason_of_accept(self, people, items, pair):
        if pair[0] not in people:
            return "person"
        if pair[1] not in items:
            return "item"
        return "again" if pair in self.wants else None

    def reason_of_refuse(self, people, items, pair):
        if pair not in self.wants:
            return "pair"
        if self.holds[pair[0]] == pair[1]:
            return "held"
        return "goal" if self.goal is not None and dict(self.goal)[pair[0]] == pair[1] else None

    def reason_of_goal(self, people, items, goal):
        if goal is None:
            return None
        right = list(goal) == sorted(set(goal)) and set(goal) <= self.wants
        once = len(goal) == len(people) == len(dict(goal)) == len({item for person, item in goal})
        return None if right and once else "goal"

    def reason_of_sizes(self, people, items, sizes):
        return None

    def reason_of_enter(self, people, items, person, item):
        return "person" if person in people else "item" if item in items else None

    def reason_of_leave(self, people, items, person):
        return "person" if person not in people else "few" if len(people) == 2 else None

    def apply(self, event):
        getattr(self, "do_" + event[0])(*event[1:])
        self.events.append(event)

    def do_trade(self, ring):
        self.holds = handed(self.holds.items(), ring)

    def do_accept(self, pair):
        self.wants = self.wants | {pair}

    def do_refuse(self, pair):
        self.wants = self.wants - {pair}

    def do_goal(self, goal):
        self.goal = goal

    def do_sizes(self, sizes):
        self.sizes = sizes

    def do_enter(self, person, item):
        self.wants = self.wants | {(person, item)}
        self.holds = {**self.holds, person: item}
        self.goal = None

    def do_leave(self, person):
        gone = self.holds[person]
        self.wants = {pair for pair in self.wants if pair[0] != person and pair[1] != gone}
        self.holds = {other: item for other, item in self.holds.items() if other != person}
        self.goal = None

    def check(self, test, market):
        """Compare all that can be read of the market with the words of the points."""
        accepts, holding = self.accepts(), self.holding()
        test.assertEqual((market.accepts, market.holding), (accepts, holding))
        test.assertEqual((market.sizes, market.goal), (self.sizes, self.goal))
        test.assertEqual(len(market), len(self.events))
        test.assertEqual(market.log(), (self.begin, *self.events))
        test.assertEqual([market[person] for person, item in holding], [item for person, item in holding])
        test.assertTrue(all(person in market for person in self.holds))
        test.assertEqual(list(market.trades()), [ring for ring, to in all_steps(accepts, holding, self.sizes)])
        test.assertEqual(market.table(), self.table())
        self.check_goal(test, market, accepts, holding)

    def check_goal(self, test, market, accepts, holding):
        if self.goal is None:
            test.assertEqual((market.distance_to_goal, market.width_to_goal, market.advice()), (None, None, None))
            return
        far = distances(accepts, holding, self.sizes).get(self.goal)
        test.assertEqual(market.distance_to_goal, far)
        test.assertEqual(market.width_to_goal, least_width(accepts, holding, self.goal))
        ring = market.advice()
        if not far:
            test.assertIsNone(ring)
            return
        after = dict(all_steps(accepts, holding, self.sizes))[ring]
        test.assertEqual(distances(accepts, after, self.sizes)[self.goal], far - 1)

    def table(self):
        rows = []
        for person, item in self.holding():
            many = sum(other == person for other, wanted in self.wants)
            mark = "*" if self.goal is not None and dict(self.goal)[person] != item else " "
            rows.append(person.ljust(8) + " " + item.ljust(8) + " " + str(many).rjust(3) + " " + mark)
        return rows


def chosen_event(chance, model):
    """An event by kind, most often one that can be applied."""
    people = sorted({*model.holds, "zoe"})
    items = sorted({*model.holds.values(), "zip"})
    word = chance.choice(("trade",) * 6 + ("accept",) * 4 + ("refuse", "goal", "goal", "sizes", "enter", "leave"))
    if word == "trade":
        steps = all_steps(model.accepts(), model.holding(), model.sizes)
        if steps and chance.random() < 0.7:
            return ("trade", chance.choice(steps)[0])
        ring = chance.sample(people, chance.randint(2, min(4, len(people))))
        least = ring.index(min(ring))
        return ("trade", tuple(ring[least:] + ring[:least]))
    if word in ("accept", "refuse"):
        return (word, (chance.choice(people), chance.choice(items)))
    if word == "goal":
        known = sorted(distances(model.accepts(), model.holding(), range(2, 7)))
        wrong = tuple((person, chance.choice(items)) for person in people)
        return ("goal", chance.choice(known * 3 + [None, wrong, known[0][::-1]]))
    if word == "sizes":
        return ("sizes", chance.choice(((), (2,), (2,), (2, 3), (2, 3, 4, 5, 6), (3,), (7, HUGE))))
    if word == "enter":
        if len(model.holds) == 6:
            return ("enter", chance.choice(sorted(model.holds)), "zip")
        return ("enter", chance.choice(people + list(PEOPLE)), chance.choice(items + list(ITEMS)))
    return ("leave", chance.choice(people))
