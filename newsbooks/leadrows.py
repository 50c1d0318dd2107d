"""The shortest rows of news that lead one rank to another."""

from newsbooks.checks import check_same_worlds, is_integer
from newsbooks.errors import BadNumber
from newsbooks.products import finer
from newsbooks.ranks import Rank


def cell_places(rank, goal):
    """Return the places in the rank at which the cells of the goal lie, or None if it is not within reach."""
    check_same_worlds(rank, goal)
    return [rank.levels[cell[0]] for cell in goal.cells] if finer(goal, rank) else None


def cell_numbers(places):
    """Return the numbers of cells that lie at these places: each step down adds one."""
    numbers = [0]
    for place, after in zip(places, places[1:]):
        numbers.append(numbers[-1] + (1 if after <= place else 0))
    return numbers


def steps_down(rank, goal):
    """Return the number of steps down, or None if the goal is not within reach."""
    places = cell_places(rank, goal)
    return None if places is None else cell_numbers(places)[-1]


def fewest_leads(rank, goal):
    """Return how many pieces the shortest rows have that lead the rank to the goal, or None."""
    steps = steps_down(rank, goal)
    return None if steps is None else halving(steps + 1)


def lead_row(rank, goal):
    """Return a shortest row that leads the rank to the goal, or None."""
    places = cell_places(rank, goal)
    if places is None:
        return None
    numbers = cell_numbers(places)
    row = []
    for piece in range(halving(numbers[-1] + 1)):
        cells = [cell for cell, number in zip(goal.cells, numbers) if number >> piece & 1 == 0]
        row.append(tuple(sorted([world for cell in cells for world in cell])))
    return tuple(row)


def halving(number):
    """Return how many halvings make the number one, rounded up each time."""
    if not is_integer(number) or number < 1:
        raise BadNumber("number")
    return (number - 1).bit_length()


def fewest_act(rank):
    """Return how many pieces the shortest rows have whose act the rank is."""
    return halving(len(rank.cells))


def act_row(rank):
    """Return a shortest row whose act the rank is."""
    return lead_row(Rank.flat(rank.worlds), rank)
