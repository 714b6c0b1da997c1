"""The shortest turn and lead of an endless sequence that comes again from some position on."""


def shortest_turn(turn):
    """The shortest part of the turn that gives it when it is repeated."""
    for many in range(1, len(turn)):
        if len(turn) % many == 0 and turn[:many] * (len(turn) // many) == turn:
            return turn[:many]
    return turn


def many_in_turn(lead, turn):
    """How much at the end of the lead can be left to the turn."""
    many = 0
    while many < len(lead) and lead[-1 - many] == turn[-1 - many % len(turn)]:
        many += 1
    return many


def moved_on(turn, many):
    """The turn, begun so much later."""
    begin = many % len(turn)
    return turn[begin:] + turn[:begin]


def normal_form(lead, turn):
    """The shortest turn, and then the shortest lead, that give the same as these tuples."""
    shortest = shortest_turn(turn)
    same = many_in_turn(lead, shortest)
    return lead[:len(lead) - same], moved_on(shortest, -same)


def told_at(lead, turn, position):
    """What stands at this position."""
    if position < len(lead):
        return lead[position]
    return turn[(position - len(lead)) % len(turn)]
