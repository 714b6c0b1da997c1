"""What was worked out of strings and the like, kept for when the same ones are given again."""


def recalled(found, key, work, most):
    """What a function tells of a key, which this dict keeps; it forgets all when it has so many of them."""
    if key not in found:
        if len(found) >= most:
            found.clear()
        found[key] = work(key)
    return found[key]
