"""Right programs: what they come to, their faults, and papers that there are none."""

from rootshared.base.plain import is_index_tuple, is_plain_integer
from rootshared.base.pools import check_pool_of
from rootshared.errors import InvalidOperation, TooMany
from rootshared.programs.programs import check_program
from rootshared.programs.runs import all_inputs, check_inputs, first_configuration, is_configuration, is_inputs

MAX_CONFIGURATIONS = 20000
# How many webs the word, and the ring, of a fault may have: one that is judged, and one that is returned.
MOST_JUDGED = 2000
MOST_FOUND = 900


class Rounds:
    """Where rounds of a program lead, each with one of some webs, which are told by their places among these."""

    def __init__(self, program, webs):
        self.decided = program.decisions
        self._moves = program.moves
        self._hearing = [[heard_places(web, house) for house in range(web.size)] for web in webs]
        self._known = {}

    def step(self, configuration, at):
        """The configuration behind a round with the web at this place."""
        told = (*configuration, None)
        rows = [tuple([told[place] for place in places]) for places in self._hearing[at]]
        return tuple([self._moves.get((state, heard), state) for state, heard in zip(configuration, rows)])

    def behind(self, configuration, places):
        """The configuration behind a round with each of the webs at these places."""
        for at in places:
            configuration = self.step(configuration, at)
        return configuration

    def later(self, configuration):
        """The configurations behind one round with each of the webs."""
        # It is asked again and again, as configurations are reached with several inputs.
        if configuration not in self._known:
            self._known[configuration] = tuple([self.step(configuration, at) for at in range(len(self._hearing))])
        return self._known[configuration]


def heard_places(web, house):
    """For each house where its state stands if the house hears it, and else where None stands: behind all states."""
    heard = web.hears(house)
    return tuple([other if other in heard else web.size for other in range(web.size)])


def ways_from(rounds, first):
    """A dict from the reached configurations, the nearest ones first, to the last step of a shortest word to them.

    A step is a pair of the configuration ahead and the place of the web; the first configuration has None.
    """
    ways = {first: None}
    queue = [first]
    done = 0
    while done < len(queue):
        present = queue[done]
        for at, later in enumerate(rounds.later(present)):
            if later not in ways:
                ways[later] = (present, at)
                queue.append(later)
        if len(queue) > MAX_CONFIGURATIONS:
            raise TooMany(MAX_CONFIGURATIONS)
        done += 1
    return ways


def word_to(ways, configuration):
    """The places of the webs of a shortest word to a reached configuration."""
    word = []
    step = ways[configuration]
    while step is not None:
        ahead, at = step
        word.append(at)
        step = ways[ahead]
    return tuple(word[::-1])


class Reach:
    """What a program comes to by some webs: for all inputs the reached configurations, as of `ways_from`."""

    def __init__(self, program, webs):
        self.rounds = Rounds(program, webs)
        self.ways = {}
        for inputs in all_inputs(program.size):
            self.ways[inputs] = ways_from(self.rounds, first_configuration(program, inputs))

    def all_reached(self):
        """A dict of True for each configuration that is reached with some inputs."""
        return {configuration: True for ways in self.ways.values() for configuration in ways}


def has_undecided(decided, configuration):
    """Whether a house of the configuration is in none of the states with a decision."""
    return any([state not in decided for state in configuration])


def wrong_decisions(decided, inputs, configuration):
    """What is wrong with the decisions in a configuration that is reached with the inputs, or None.

    `decided` has the states with a decision.
    """
    made = [decided[state] for state in configuration if state in decided]
    if 0 in made and 1 in made:
        return "unlike"
    if any([decision not in inputs for decision in made]):
        return "strange"
    return None


def steps_back(rounds, members):
    """A dict from each of the configurations to a list of those of them that a round leads from, one for each web."""
    back = {member: [] for member in members}
    for member in members:
        for later in rounds.later(member):
            if later in back:
                back[later].append(member)
    return back


def longest_walks(rounds, members):
    """A dict from configurations to the most rounds that lead from each through members alone, itself being one.

    Those of the members from which rounds can go on for ever so are left out.
    """
    back = steps_back(rounds, members)
    left = {member: len([later for later in rounds.later(member) if later in back]) for member in members}
    queue = [member for member in members if left[member] == 0]
    walks = {member: 0 for member in queue}
    done = 0
    while done < len(queue):
        present = queue[done]
        for earlier in back[present]:
            left[earlier] -= 1
            # The queue ascends by these numbers, so the last one that is met is the greatest.
            if left[earlier] == 0:
                walks[earlier] = walks[present] + 1
                queue.append(earlier)
        done += 1
    return walks


def ranks_of(reach):
    """A dict from the configurations with an undecided house to the most rounds until all have decided.

    It is None if the program is not right.
    """
    for inputs, ways in reach.ways.items():
        if any([wrong_decisions(reach.rounds.decided, inputs, reached) is not None for reached in ways]):
            return None
    undecided = undecided_of(reach)
    walks = longest_walks(reach.rounds, undecided)
    if len(walks) < len(undecided):
        return None
    return {configuration: walk + 1 for configuration, walk in walks.items()}


def undecided_of(reach):
    """A dict of True for each configuration with an undecided house that is reached with some inputs."""
    decided = reach.rounds.decided
    return {reached: True for reached in reach.all_reached() if has_undecided(decided, reached)}


def last_left(rounds, members):
    """The members in an order in which a walk through members leaves them: what is reached from one stands ahead.

    Only members that reach one another can stand the other way round.
    """
    order = []
    met = {}
    for start in members:
        stack = [(start, False)]
        while stack:
            member, is_left = stack.pop()
            if is_left:
                order.append(member)
            elif member not in met:
                met[member] = True
                stack.append((member, True))
                stack.extend([(later, False) for later in rounds.later(member) if later in members])
    return order


def knots_of(rounds, members):
    """A dict from the members through which a ring of members goes to their knots.

    The members of a knot reach one another through members; one of them stands for all.
    """
    back = steps_back(rounds, members)
    knots = {}
    for start in last_left(rounds, members)[::-1]:
        stack = [start]
        while stack:
            member = stack.pop()
            if member not in knots:
                knots[member] = start
                stack.extend(back[member])
    many = {}
    for knot in list(knots.values()):
        many[knot] = many.get(knot, 0) + 1
    return {member: knots[member] for member in members if many[knots[member]] > 1 or member in back[member]}


def ring_through(rounds, start, knots):
    """The places of the webs of a shortest ring through a configuration that lies on one."""
    ahead = {}
    queue = [start]
    done = 0
    while start not in ahead:
        present = queue[done]
        for at, later in enumerate(rounds.later(present)):
            if later not in ahead and knots.get(later) == knots[start]:
                ahead[later] = (present, at)
                queue.append(later)
        done += 1
    present, at = ahead[start]
    ring = [at]
    while present != start:
        present, at = ahead[present]
        ring.append(at)
    return tuple(ring[::-1])


def wrong_fault(reach, inputs):
    """A fault with these inputs by decisions that are wrong, with a shortest word, or None."""
    ways = reach.ways[inputs]
    for configuration in ways:
        kind = wrong_decisions(reach.rounds.decided, inputs, configuration)
        if kind is not None:
            return kind, inputs, word_to(ways, configuration)
    return None


def ring_fault(reach, inputs, endless):
    """A fault with these inputs by a ring, a short one if there is one, or None.

    `endless` has the configurations with an undecided house from which rounds can go on among these for ever.
    """
    ways = reach.ways[inputs]
    left = {reached: True for reached in ways if reached in endless}
    longer = None
    while True:
        knots = knots_of(reach.rounds, left)
        nearest = [reached for reached in ways if reached in knots]
        if not nearest:
            return longer
        word = word_to(ways, nearest[0])
        fault = ("round", inputs, word, ring_through(reach.rounds, nearest[0], knots))
        if longer is None or is_short(fault):
            longer = fault
        # All others are as far away at least.
        if is_short(fault) or len(word) > MOST_FOUND:
            return longer
        # No short ring goes through it, so it need not be looked at with others.
        del left[nearest[0]]


def is_short(fault):
    """Whether the word and the ring of a fault are as short as those of faults that are returned."""
    return all([len(webs) <= MOST_FOUND for webs in fault[2:]])


def fault_of(reach):
    """A fault, a short one if there is one, or None if there is none. Its webs are told by their places."""
    wrong = [wrong_fault(reach, inputs) for inputs in reach.ways]
    found = [fault for fault in wrong if fault is not None]
    short = [fault for fault in found if is_short(fault)]
    if short:
        return short[0]
    undecided = undecided_of(reach)
    walks = longest_walks(reach.rounds, undecided)
    endless = {reached: True for reached in undecided if reached not in walks}
    for inputs in reach.ways:
        fault = ring_fault(reach, inputs, endless)
        if fault is not None:
            found.append(fault)
            if is_short(fault):
                return fault
    return found[0] if found else None


def fault_by(program, pool, indices):
    """A fault by webs of the group alone, a short one if there is one, or None if there is none."""
    fault = fault_of(Reach(program, pool.part(indices).webs))
    if fault is None:
        return None
    return fault[:2] + tuple([tuple([indices[at] for at in webs]) for webs in fault[2:]])


def check_program_and_pool(program, pool):
    """Refuse what is no program, and what is no pool on as many houses."""
    check_program(program)
    check_pool_of(pool, program.size)


def configurations(program, pool, inputs):
    """The ascending tuple of the configurations that are reached with the inputs."""
    check_program_and_pool(program, pool)
    check_inputs(inputs, program.size)
    ways = ways_from(Rounds(program, pool.webs), first_configuration(program, inputs))
    return tuple(sorted(list(ways)))


def is_right(program, pool):
    """Whether the program is right for the pool."""
    check_program_and_pool(program, pool)
    return ranks_of(Reach(program, pool.webs)) is not None


def found_fault(program, pool):
    """A fault of the program, or None if it is right."""
    check_program_and_pool(program, pool)
    return fault_by(program, pool, tuple(range(len(pool))))


def is_fault(program, pool, value):
    """Whether the value is a fault of the program."""
    check_program_and_pool(program, pool)
    if not isinstance(value, tuple) or len(value) not in (3, 4) or not is_inputs(value[1], program.size):
        return False
    if not all([is_index_tuple(webs, len(pool)) and len(webs) <= MOST_JUDGED for webs in value[2:]]):
        return False
    kind, inputs, word = value[:3]
    rounds = Rounds(program, pool.webs)
    end = rounds.behind(first_configuration(program, inputs), word)
    made = [rounds.decided.get(state) for state in end]
    if len(value) == 4:
        return kind == "round" and None in made and len(value[3]) > 0 and rounds.behind(end, value[3]) == end
    if kind == "unlike":
        return 0 in made and 1 in made
    return kind == "strange" and any([decision is not None and decision not in inputs for decision in made])


def right_paper(program, pool):
    """A paper that the program is right: a dict from all inputs to dicts from configurations to integers."""
    check_program_and_pool(program, pool)
    reach = Reach(program, pool.webs)
    ranks = ranks_of(reach)
    if ranks is None:
        raise InvalidOperation("the program is not right for the pool")
    paper = {}
    for inputs, ways in reach.ways.items():
        paper[inputs] = {reached: ranks.get(reached, 0) for reached in sorted(list(ways))}
    return paper


def is_right_paper(program, pool, value):
    """Whether the value is a paper that the program is right."""
    check_program_and_pool(program, pool)
    if not isinstance(value, dict) or not all([is_inputs(inputs, program.size) for inputs in value]):
        return False
    if len(value) != len(all_inputs(program.size)) or not all([is_ranking(program, row) for row in value.values()]):
        return False
    rounds = Rounds(program, pool.webs)
    for inputs, row in value.items():
        if first_configuration(program, inputs) not in row:
            return False
        if not all([is_ranked(rounds, inputs, row, configuration) for configuration in row]):
            return False
    return True


def is_ranking(program, value):
    """Whether the value is a dict from configurations to integers of at least 0."""
    if not isinstance(value, dict) or not all([is_configuration(program, configuration) for configuration in value]):
        return False
    return all([is_plain_integer(rank) and rank >= 0 for rank in value.values()])


def is_ranked(rounds, inputs, row, configuration):
    """Whether the key is one that a paper may have for the inputs, if it has the integers of the row."""
    if wrong_decisions(rounds.decided, inputs, configuration) is not None:
        return False
    later = rounds.later(configuration)
    if not all([other in row for other in later]):
        return False
    if not has_undecided(rounds.decided, configuration):
        return True
    return all([row[other] < row[configuration] for other in later])


def slowest(program, pool):
    """The least number of rounds behind which all houses have decided, whatever inputs and webs come."""
    check_program_and_pool(program, pool)
    ranks = ranks_of(Reach(program, pool.webs))
    if ranks is None:
        raise InvalidOperation("the program is not right for the pool")
    return max([ranks.get(first_configuration(program, inputs), 0) for inputs in all_inputs(program.size)])
