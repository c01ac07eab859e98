"""The cheapest layings of two rows: the first one, how many there are, and a paper that none is cheaper.

A state is a place and the move by which a laying has come there: what comes next hangs on nothing else. A step is the
state that a move leads to, and what the move costs. Rests are what the way from a state to an end costs at the least.
"""

from gapweave.layings import alone_cost, check_manner, check_rows, may_begin, may_end
from gapweave.prices import in_units, pair_cost

# To begin at a place counts as to come there by p, since after both a stretch opens anew.
CAME = ("p", "a", "b")


def all_places(first, second):
    places = []
    for i in range(len(first) + 1):
        for j in range(len(second) + 1):
            places.append((i, j))
    return places


def steps_from(prices, first, second, place, came):
    i = place[0]
    j = place[1]
    steps = []
    # In the order of the moves, since of steps that are as good the first one is taken.
    if i < len(first) and j < len(second):
        steps.append((((i + 1, j + 1), "p"), pair_cost(prices, first[i], second[j])))
    if i < len(first):
        steps.append((((i + 1, j), "a"), alone_cost(prices, "a", came)))
    if j < len(second):
        steps.append((((i, j + 1), "b"), alone_cost(prices, "b", came)))
    return steps


def all_steps(prices, first, second, places):
    steps = {}
    for place in places:
        for came in CAME:
            steps[(place, came)] = steps_from(prices, first, second, place, came)
    return steps


def all_ends(first, second, places, manner):
    ends = {}
    for place in places:
        ends[place] = may_end(manner, first, second, place)
    return ends


class Ground:
    def __init__(self, prices, first, second, manner):
        check_rows(prices, [first, second])
        check_manner(manner)
        places = all_places(first, second)
        self.steps = all_steps(prices, first, second, places)
        self.begins = [place for place in places if may_begin(manner, place)]
        self.ends = all_ends(first, second, places, manner)


def least_rests(ground):
    rests = {}
    # Backwards, since no step leads to a place that stands earlier.
    for state in reversed(list(ground.steps)):
        costs = [cost + rests[behind] for behind, cost in ground.steps[state]]
        if ground.ends[state[0]]:
            costs.append(0)
        rests[state] = min(costs)
    return rests


def ends_there(ground, rests, state):
    return ground.ends[state[0]] and rests[state] == 0


def first_begin(ground, rests):
    return min(ground.begins, key=lambda begin: rests[(begin, "p")])


def state_behind(ground, rests, state):
    return min(ground.steps[state], key=lambda step: step[1] + rests[step[0]])[0]


def first_moves(ground, rests, begin):
    state = (begin, "p")
    moves = []
    while not ends_there(ground, rests, state):
        state = state_behind(ground, rests, state)
        moves.append(state[1])
    return "".join(moves)


def cheapest(prices, first, second, manner="whole"):
    ground = Ground(prices, first, second, manner)
    rests = least_rests(ground)
    begin = first_begin(ground, rests)
    return (in_units(prices, rests[(begin, "p")]), begin, first_moves(ground, rests, begin))


def all_counts(ground, rests):
    counts = {}
    for state in reversed(list(ground.steps)):
        many = 1 if ends_there(ground, rests, state) else 0
        for behind, cost in ground.steps[state]:
            if cost + rests[behind] == rests[state]:
                many = many + counts[behind]
        counts[state] = many
    return counts


def count_of(prices, first, second, manner):
    ground = Ground(prices, first, second, manner)
    rests = least_rests(ground)
    counts = all_counts(ground, rests)
    least = rests[(first_begin(ground, rests), "p")]
    return sum([counts[(begin, "p")] for begin in ground.begins if rests[(begin, "p")] == least])


def least_numbers(ground):
    numbers = {}
    for begin in ground.begins:
        numbers[(begin, "p")] = 0
    for state in ground.steps:
        if state in numbers:
            for behind, cost in ground.steps[state]:
                number = numbers[state] + cost
                numbers[behind] = min(number, numbers.get(behind, number))
    return numbers


def numbers_at(numbers, place):
    return tuple([numbers.get((place, came)) for came in CAME])


def paper_of(prices, first, second, manner):
    numbers = least_numbers(Ground(prices, first, second, manner))
    paper = []
    for i in range(len(first) + 1):
        paper.append([numbers_at(numbers, (i, j)) for j in range(len(second) + 1)])
    return paper
