"""Houses: moments that keep states of sheets, and branches that lead through them."""

from plateheaps.deeds import behind, change, check_caps, grown, sheet, turned_back
from plateheaps.errors import BadName, NoMoment, NothingDone, TooMany, UnknownName
from plateheaps.heaps import look
from plateheaps.kinds import is_number
from plateheaps.words import is_name

MOST_MOMENTS = 200
MOST_BRANCHES = 6


class House:
    """Moments with states, and the branches that lead to them; it stands in one of them, at one moment."""

    def __init__(self):
        self._states = [{}]
        self._elders = [()]
        self._deeds = [None]
        self._trails = {"main": [0]}
        self._places = {"main": 0}
        self._present = "main"

    def _add(self, elders, deed, state):
        """Make a moment of the present one, and return its number."""
        number = len(self._states)
        if number >= MOST_MOMENTS:
            raise TooMany()
        self._states.append(state)
        self._elders.append(elders)
        self._deeds.append(deed)
        self._trails[self._present] = self._trail_here() + [number]
        self._places[self._present] += 1
        return number

    def _trail_here(self):
        """Return the present trail up to the place, a new list."""
        return self._trails[self._present][:self._places[self._present] + 1]

    def _check_branch(self, name):
        if not isinstance(name, str) or name not in self._trails:
            raise UnknownName(name)

    def _check_moment(self, number):
        if not is_number(number) or not 0 <= number < len(self._states):
            raise NoMoment(number)

    def _changed(self, number):
        """Return what a moment changed of its first elder's state."""
        if number == 0:
            return {}
        return change(self._states[self._elders[number][0]], self._states[number])

    def _grow(self, elders, deed, more):
        """Make a moment of the present state grown by something, and return its number."""
        state = grown(self._states[self.present()], more)
        check_caps(state)
        return self._add(elders, deed, state)

    def _all_elders(self, number):
        """Return the dict from a moment, its elders, and all elders of these, to True."""
        found = {number: True}
        # An elder always has a lesser number than the moments that came of it.
        for k in range(number, 0, -1):
            if k in found:
                for elder in self._elders[k]:
                    found[elder] = True
        return found

    def do(self, deed):
        """Make a moment of the present one by a deed, and return its number."""
        state = behind(self._states[self.present()], deed)
        return self._add((self.present(),), deed, state)

    def undo(self):
        """Go one place back in the present trail, and return the number of the moment there."""
        if self._places[self._present] == 0:
            raise NothingDone()
        self._places[self._present] -= 1
        return self.present()

    def redo(self):
        """Go one place on in the present trail, and return the number of the moment there."""
        if self._places[self._present] + 1 == len(self._trails[self._present]):
            raise NothingDone()
        self._places[self._present] += 1
        return self.present()

    def branch(self, name):
        """Make a branch with the present trail up to the place."""
        if not is_name(name) or name in self._trails:
            raise BadName(name)
        if len(self._trails) >= MOST_BRANCHES:
            raise TooMany()
        self._trails[name] = self._trail_here()
        self._places[name] = self._places[self._present]

    def go(self, name):
        """Go to the branch of this name, and return the number of its moment."""
        self._check_branch(name)
        self._present = name
        return self.present()

    def present(self):
        """Return the number of the present moment."""
        return self._trails[self._present][self._places[self._present]]

    def state(self):
        """Return the state of the present moment."""
        return self.state_at(self.present())

    def state_at(self, number):
        """Return the state of a moment."""
        self._check_moment(number)
        return dict(self._states[number])

    def __len__(self):
        return len(self._states)

    def here(self):
        """Return the name of the present branch."""
        return self._present

    def branches(self):
        """Return the list of the names of all branches, in the order in which they came."""
        return list(self._trails)

    def trail(self, name):
        """Return the list of the numbers of the moments in the trail of a branch."""
        self._check_branch(name)
        return list(self._trails[name])

    def place(self, name):
        """Return the place of a branch in its trail."""
        self._check_branch(name)
        return self._places[name]

    def log(self):
        """Return the list of the pairs (elders, deed) of all moments but moment 0."""
        return list(zip(self._elders[1:], self._deeds[1:]))

    def pick(self, number):
        """Make a moment of the present one by what another moment changed, and return its number."""
        self._check_moment(number)
        return self._grow((self.present(),), ("pick", number), self._changed(number))

    def revert(self, number):
        """Make a moment of the present one by taking away what another moment changed, and return its number."""
        self._check_moment(number)
        return self._grow((self.present(),), ("revert", number), turned_back(self._changed(number)))

    def merge(self, name):
        """Make a moment of the present one and the one at which a branch stands, and return its number."""
        self._check_branch(name)
        other = self._trails[name][self._places[name]]
        own = self._all_elders(self.present())
        if other in own:
            return self.present()
        common = max([number for number in self._all_elders(other) if number in own])
        more = change(self._states[common], self._states[other])
        return self._grow((self.present(), other), ("merge", name), more)

    def twin(self):
        """Return an equal house that goes its own way."""
        made = House()
        made._states = list(self._states)
        made._elders = list(self._elders)
        made._deeds = list(self._deeds)
        made._trails = {name: list(self._trails[name]) for name in self._trails}
        made._places = dict(self._places)
        made._present = self._present
        return made

    def _told(self):
        """Return all that makes houses equal."""
        branches = [(name, self._trails[name], self._places[name]) for name in self._trails]
        return (self.log(), branches, self._present)

    def __eq__(self, other):
        return isinstance(other, House) and self._told() == other._told()


def line_of(house):
    """Return the list of the moments from moment 0 to the present one, each the first elder of the next one."""
    log = house.log()
    found = [house.present()]
    while found[-1] != 0:
        found.append(log[found[-1] - 1][0][0])
    return found[::-1]


def blame(house, name, p):
    """Return the pairs (number, d) of the moments that changed the look of a sheet at a place, by d."""
    if not is_name(name):
        raise BadName(name)
    found = []
    ahead = 0
    for number in line_of(house):
        seen = look(sheet(house.state_at(number), name), p)
        if seen != ahead:
            found.append((number, seen - ahead))
        ahead = seen
    return found


def would_tell(house, deeds):
    """Return the state that the house would have behind the deeds, done one behind the other."""
    trial = house.twin()
    for deed in deeds:
        trial.do(deed)
    return trial.state()


def tried(house, deeds):
    """Do the deeds, all or none, and return the list of the numbers of their moments."""
    would_tell(house, deeds)
    return [house.do(deed) for deed in deeds]
