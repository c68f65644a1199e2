"""The fewest stores by which lags can keep a beat, and the amounts of ways that show that no fewer will do."""

from storeway.least import lags_by_part, overlong, seen_as, settled_lags, spare, tightest


# Amounts on their way from the parts that have some to send to those that wait for some. A way costs what it holds
# beyond what it must; moved by the lags, none costs less than 0, and each with an amount on it just 0.
class Load:
    def __init__(self, due, lags, costs):
        self.due = due
        self.lags = lags
        self.costs = costs
        self.amounts = {}

    # An amount that is on the way back may be taken off it, at its cost, which is 0.
    def sent_back(self, begin, end):
        return self.amounts.get((end, begin), 0)

    def cost(self, begin, end):
        if self.sent_back(begin, end) > 0:
            return 0
        if (begin, end) not in self.costs:
            return None
        return self.costs[(begin, end)] + self.lags[end] - self.lags[begin]

    def send(self, begin, end, amount):
        if self.sent_back(begin, end) > 0:
            self.amounts[(end, begin)] -= amount
        else:
            self.amounts[(begin, end)] = self.amounts.get((begin, end), 0) + amount


# Each line asks to be matched by an amount of 1 from its beginning to its end, by whatever ways.
def due_by_lines(works, names):
    due = {}
    for name in names:
        due[name] = 0
    for start, end, held in works.lines():
        due[seen_as(works, start)] += 1
        due[seen_as(works, end)] -= 1
    return due


def nearest(far, passed):
    return min([(far[name], name) for name in far if name not in passed])[1]


# The nearest part that waits, how far each part up to there lies from those that have some to send, and the part
# ahead of each.
def searched(load):
    far = {}
    ahead = {}
    passed = {}
    for name in load.due:
        if load.due[name] > 0:
            far[name] = 0
    name = nearest(far, passed)
    while load.due[name] >= 0:
        passed[name] = True
        for end in load.due:
            cost = load.cost(name, end)
            if cost is not None and (end not in far or far[name] + cost < far[end]):
                far[end] = far[name] + cost
                ahead[end] = name
        name = nearest(far, passed)
    return (name, far, ahead)


# With lags lowered by how far the parts lie, still no way costs less than 0, and those to the nearest part just 0.
def lower_lags(load, far, limit):
    for name in load.due:
        load.lags[name] -= min(far.get(name, limit), limit)


def steps_to(ahead, end):
    steps = []
    while end in ahead:
        steps.append((ahead[end], end))
        end = ahead[end]
    return steps


def send_some(load):
    found = searched(load)
    end = found[0]
    far = found[1]
    lower_lags(load, far, far[end])
    steps = steps_to(found[2], end)
    begin = steps[-1][0]
    back = [load.sent_back(start, stop) for start, stop in steps]
    amount = min([load.due[begin], -load.due[end]] + [given for given in back if given > 0])
    for start, stop in steps:
        load.send(start, stop, amount)
    load.due[begin] -= amount
    load.due[end] += amount


# None where no lags make the beat.
def load_sent(works, ways, most):
    lags = settled_lags(works, ways, most)[0]
    if lags is None or overlong(works, most) != []:
        return None
    costs = {}
    for way in ways:
        costs[(way.begin, way.end)] = spare(way, most)
    load = Load(due_by_lines(works, list(lags)), lags, costs)
    while max(load.due.values()) > 0:
        send_some(load)
    return load


def fewest(works, most):
    load = load_sent(works, tightest(works), most)
    return None if load is None else lags_by_part(works, load.lags)


def floor(works, most):
    ways = tightest(works)
    load = load_sent(works, ways, most)
    if load is None:
        return None
    pairs = [(way.places, load.amounts.get((way.begin, way.end), 0)) for way in ways]
    return [(places, amount) for places, amount in pairs if amount > 0]
