"""The shortest rows of news that push one rank to another."""

from newsbooks.leadrows import cell_places


def rising_end(rank, goal):
    """Return how many of the last cells of the goal lie at rising places, or None if it is not within reach."""
    places = cell_places(rank, goal)
    if places is None:
        return None
    rising = 1
    while rising < len(places) and places[-rising - 1] < places[-rising]:
        rising += 1
    return rising


def push_row(rank, goal):
    """Return a shortest row that pushes the rank to the goal, or None."""
    rising = rising_end(rank, goal)
    return None if rising is None else goal.cells[:len(goal.cells) - rising][::-1]


def fewest_pushes(rank, goal):
    """Return how many pieces the shortest rows have that push the rank to the goal, or None."""
    rising = rising_end(rank, goal)
    return None if rising is None else len(goal.cells) - rising
