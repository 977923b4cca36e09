"""All runs of a town: where they can come to rest, and whether one goes on for ever."""

from stillfound.rules import check_rules
from stillfound.runs import all_runs, first_state, led
from stillfound.webs import check_web


def rests(web, rules):
    """The ascending list of all webs at which some run comes to rest."""
    return resting_webs(steps_of(web, rules))


def endless(web, rules):
    """Moves ahead and a round of moves that leads back to the same standing, or None if each run comes to rest."""
    lasting = lasting_steps(steps_of(web, rules))
    state = first_state(web, ())
    if state not in lasting:
        return None
    moves = []
    places = {}
    while state not in places:
        places[state] = len(moves)
        move, state = lasting[state]
        moves.append(move)
    return tuple(moves[:places[state]]), tuple(moves[places[state]:])


def is_endless(web, rules, thing):
    """Whether a thing is moves ahead and a round of moves that leads back to the same standing."""
    check_town(web, rules)
    if not isinstance(thing, tuple) or len(thing) != 2 or thing[1] == ():
        return False
    state = led(first_state(web, ()), rules, thing[0])
    return state is not None and led(state, rules, thing[1]) == state


def sure(web, rules):
    """The web at which every run comes to rest, or None."""
    steps = steps_of(web, rules)
    webs = resting_webs(steps)
    return webs[0] if len(webs) == 1 and not lasting_steps(steps) else None


def check_town(web, rules):
    """Raise NoWeb and NoRules for what is no web, and no rules for its people."""
    check_web(web)
    check_rules(rules, len(web))


def steps_of(web, rules):
    """For each state of the runs of a town the moves from it."""
    check_town(web, rules)
    _, steps = all_runs(first_state(web, ()), rules)
    return steps


def resting_webs(steps):
    """The ascending list of the webs of all states without moves."""
    return sorted([state[0][0] for state in steps if not steps[state]])


def lasting_steps(steps):
    """For each state from which a run can go on for ever a move, with a state behind it that is such, too."""
    left = {state: len(steps[state]) for state in steps}
    before = {state: [] for state in steps}
    for state in steps:
        for _, behind in steps[state]:
            before[behind].append(state)
    # A state of which all moves lead to such as come to rest in the end is such, too.
    resting = [state for state in steps if not steps[state]]
    while resting:
        state = resting.pop()
        for earlier in before[state]:
            left[earlier] -= 1
            if left[earlier] == 0:
                resting.append(earlier)
    return {state: lasting_step(steps[state], left) for state in steps if left[state] > 0}


def lasting_step(moves, left):
    """The first of these moves, with the states behind them, behind which moves are left that last."""
    return [(move, behind) for move, behind in moves if left[behind] > 0][0]
