"""Frames of the browser: tuples of entries (step, state, number of a document), the steps ascending."""


def shown_entry(frame, now):
    """Return the entry that a frame shows at a step."""
    found = frame[0]
    for entry in frame:
        if entry[0] <= now:
            found = entry
    return found


def pruned(frame, now):
    """Return a frame without the entries whose steps are greater than a step."""
    left = [entry for entry in frame if entry[0] <= now]
    if left == []:
        _, state, number = frame[0]
        left = [(-1, state, number)]
    return tuple(left)


def cut_off(frame, first, covers):
    """Return a frame without the entries whose steps are less than the first one, as far as they may go."""
    lesser = [entry for entry in frame if entry[0] < first]
    left = [entry for entry in frame if entry[0] >= first]
    if lesser != [] and (left == [] or (covers and left[0][0] > first)):
        left.insert(0, lesser[-1])
    return tuple(left)


def shifted_step(step, gone):
    """Return a step, less by the number of the steps up to it that have been taken out."""
    return step - len([lost for lost in gone if lost <= step])


def shifted(frame, gone):
    """Return a frame after steps that none of its entries has have been taken out."""
    return tuple([(shifted_step(step, gone), state, number) for step, state, number in frame])


def without_states(frame, staying):
    """Return a frame in which only entries with some documents have kept their states."""
    return tuple([(step, state if number in staying else 0, number) for step, state, number in frame])
