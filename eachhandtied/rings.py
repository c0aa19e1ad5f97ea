"""RINGS and CROSSINGS: tuples (hand, task, hand, task, ..) that close."""

from eachhandtied.plain import are_numbers


def ties_round(ring):
    """The pair of the list of the TIES from each HAND of ring to the TASK
    behind it, and of that of those from each TASK to the HAND behind it."""
    hands, tasks = ring[::2], ring[1::2]
    later = hands[1:] + hands[:1]
    return list(zip(hands, tasks)), list(zip(later, tasks))


def is_ring(first, second, thing):
    """Whether thing goes round: from HANDS to TASKS over TIES of first, from
    TASKS to HANDS over TIES of second."""
    if not are_numbers(thing) or len(thing) < 4 or len(thing) % 2 == 1:
        return False
    hands, tasks = thing[::2], thing[1::2]
    if len(set(hands)) < len(hands) or len(set(tasks)) < len(tasks):
        return False
    there, back = ties_round(thing)
    return all([tie in first for tie in there]) and all([tie in second for tie in back])


def ring_over(first, second, tie):
    """A tuple that goes round so, from the HAND of tie to its TASK at first;
    () if there is none."""
    came, by = {tie[1]: tie[0]}, {}
    waiting = [tie[1]]
    while waiting:
        task = waiting.pop()
        for hand in [own[0] for own in second if own[1] == task and own != tie]:
            if hand in by:
                continue
            by[hand] = task
            for beyond in [own[1] for own in first if own[0] == hand]:
                if beyond not in came:
                    came[beyond] = hand
                    waiting.append(beyond)
    if tie[0] not in by:
        return ()
    way = []
    hand = tie[0]
    # Back from the HAND of tie to its TASK, and so to the HAND again.
    while not way or hand != tie[0]:
        task = by[hand]
        hand = came[task]
        way = [hand, task] + way
    return tuple(way)
