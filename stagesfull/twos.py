"""Works that go through two machines, and the best order of them."""


def makespan(works, order):
    """The end if both machines do the works in this order, each as early as can be."""
    ahead = 0
    end = 0
    for place in order:
        one, two = works[place]
        ahead += one
        end = max(ahead, end) + two
    return end


def best_order(works):
    """First the works that the first machine has done soon, then those that the second one has."""
    firsts = [(one, place) for place, (one, two) in enumerate(works) if one < two]
    others = [(-two, place) for place, (one, two) in enumerate(works) if one >= two]
    return tuple([place for time, place in sorted(firsts) + sorted(others)])
