"""The least machine that answers as a given one does [82]."""


def least_states(states):
    """The states that can be met from state 0, one of those that are not apart, numbered as they are met."""
    classes = Parting(states).classes()
    # The class of each state that is kept, in sequence, and that state.
    kept = [0]
    numbers = {classes[0]: 0}
    found = []
    while len(found) < len(kept):
        state = states[kept[len(found)]]
        told = {}
        for kind in sorted(state):
            following, row = state[kind]
            if classes[following] not in numbers:
                numbers[classes[following]] = len(kept)
                kept.append(following)
            told[kind] = (numbers[classes[following]], row)
        found.append(told)
    return found


class Parting:
    """Parts states into classes until no two of one class are apart."""

    def __init__(self, states):
        # For each kind, and each state, the states from which the kind leads to it.
        self._before = {}
        for number, state in enumerate(states):
            for kind, (following, _) in state.items():
                self._before.setdefault(kind, {}).setdefault(following, []).append(number)
        self._members = []
        self._class_of = [0 for _ in states]
        self._waiting = []
        alike = {}
        for number, state in enumerate(states):
            told = tuple([(kind, state[kind][1]) for kind in sorted(state)])
            alike.setdefault(told, []).append(number)
        for told in alike:
            self._add_class(alike[told])

    def classes(self):
        """For each state the number of its class."""
        while self._waiting:
            parting = self._waiting.pop()
            # The class can be parted itself meanwhile; what it was is parted by all the same.
            members = list(self._members[parting])
            for before in self._before.values():
                self._part([number for member in members for number in before.get(member, [])])
        return list(self._class_of)

    def _part(self, numbers):
        """Parts each class into those of its states that have these numbers and the others."""
        touched = {}
        for number in numbers:
            touched.setdefault(self._class_of[number], []).append(number)
        for old, inside in touched.items():
            if len(inside) < len(self._members[old]):
                taken = {number: True for number in inside}
                outside = [number for number in self._members[old] if number not in taken]
                self._members[old] = inside if len(inside) > len(outside) else outside
                # What was parted by both together needs to be parted by the lesser one only.
                self._add_class(outside if len(inside) > len(outside) else inside)

    def _add_class(self, members):
        for number in members:
            self._class_of[number] = len(self._members)
        self._waiting.append(len(self._members))
        self._members.append(members)
