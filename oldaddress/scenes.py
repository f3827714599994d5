"""What lies where at one moment, and how much came ahead of it."""

from oldaddress.deedforms import deed_can_be_done, rows_behind, told_deed
from oldaddress.rows import size_of


class Scene:
    """The rows of all addresses, how many pieces were made and how many days went by so far."""

    def __init__(self, lying, born, days):
        self.lying = lying
        self.born = born
        self.days = days

    def sizes(self):
        return {address: size_of(row) for address, row in self.lying.items()}


def empty_scene(names):
    return Scene({name: () for name in names}, 0, 0)


def scene_behind(scene, deed):
    """The scene behind a deed that can be done."""
    lying = rows_behind(scene.lying, scene.born, deed)
    if deed[0] == "wait":
        return Scene(lying, scene.born, scene.days + deed[1])
    if deed[0] == "make" or deed[0] == "grow":
        return Scene(lying, scene.born + deed[2], scene.days)
    return Scene(lying, scene.born, scene.days)


def deed_done_there(scene, most, thing):
    """The deed that a thing tells, as a tuple, None if it tells none that can be done there."""
    deed = told_deed(scene.lying, thing)
    if deed is None or not deed_can_be_done(scene.sizes(), most, deed):
        return None
    return deed
