"""Trails: what one comes to step by step, each thing once."""

# What stands for the thing behind a step where just that was looked for.
FOUND = "found"


class Trail:
    """Things in the order in which they are met, and the step by which one first comes to each."""

    def __init__(self, start):
        self._numbers = {start: 0}
        self._things = [start]
        self._came = [(0, None)]

    def meet(self, ahead, step, thing):
        """The number of a thing to which a step leads from the one with a number; a new one comes behind all."""
        if thing not in self._numbers:
            self._numbers[thing] = len(self._things)
            self._things.append(thing)
            self._came.append((ahead, step))
        return self._numbers[thing]

    def many(self):
        return len(self._things)

    def met(self, number):
        return self._things[number]

    def things(self):
        return list(self._things)

    def way(self, number):
        """The list of the first steps from the start to the thing with a number."""
        steps = []
        while number > 0:
            number, step = self._came[number]
            steps.append(step)
        return steps[::-1]

    def ways(self):
        """The first ways to all things, in their order."""
        return [self.way(number) for number in range(len(self._things))]


def first_way(trail, steps_of, behind):
    """The first shortest way to what is looked for, None if all that there is was met without it.

    steps_of tells the steps from a thing, behind the thing to which a step leads from it, None if it is not
    gone, FOUND if it leads to what is looked for.
    """
    number = 0
    while number < trail.many():
        thing = trail.met(number)
        for step in steps_of(thing):
            later = behind(thing, step)
            if later == FOUND:
                return [*trail.way(number), step]
            if later is not None:
                trail.meet(number, step, later)
        number += 1
    return None
