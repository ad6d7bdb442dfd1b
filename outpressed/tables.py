"""Tables of next standings: nexts[s][k] follows the standing s by letter k."""


def first_of_classes(classes, nexts):
    """One standing of each class that is reached, by the least texts that lead to the classes."""
    order = [0]
    found = {classes[0]: True}
    at = 0
    while at < len(order):
        standing = order[at]
        for following in nexts[standing]:
            if classes[following] not in found:
                found[classes[following]] = True
                order.append(following)
        at += 1
    return order


def reached_in(nexts):
    """The standings that some text leads to, by the least texts that lead to them."""
    return first_of_classes(list(range(len(nexts))), nexts)


def led_from(nexts, place):
    """For each standing the standings that lead to it by the letter at the place."""
    earlier = [[] for _ in nexts]
    for standing, row in enumerate(nexts):
        earlier[row[place]].append(standing)
    return earlier


def class_members(classes):
    """For each class the standings in it, as keys."""
    members = [{} for _ in range(max(classes) + 1)]
    for standing, number in enumerate(classes):
        members[number][standing] = True
    return members


def hits_by_class(splitter, earlier, classes):
    """The standings that lead into the splitter, listed by their classes."""
    hits = {}
    for standing in splitter:
        for before in earlier[standing]:
            hits.setdefault(classes[before], []).append(before)
    return hits


def stable_classes(colors, nexts):
    """The fewest classes whose standings agree in color and, letter by letter, in next class.

    colors holds a number from 0 for each standing, none of them left out.
    """
    classes = list(colors)
    members = [dict(group) for group in class_members(colors)]
    leading = [led_from(nexts, place) for place in range(len(nexts[0]))]
    work = list(range(len(members)))
    while work:
        splitter = list(members[work.pop()])
        for earlier in leading:
            hits = hits_by_class(splitter, earlier, classes)
            for number, hit in hits.items():
                if len(hit) == len(members[number]):
                    continue
                # The smaller part gets the new number: so each standing
                # moves seldom, and only the new class has to split others.
                part = hit
                if 2 * len(hit) > len(members[number]):
                    chosen = {standing: True for standing in hit}
                    part = [standing for standing in members[number] if standing not in chosen]
                    members[number] = chosen
                else:
                    for standing in part:
                        del members[number][standing]
                for standing in part:
                    classes[standing] = len(members)
                work.append(len(members))
                members.append({standing: True for standing in part})
    return classes
