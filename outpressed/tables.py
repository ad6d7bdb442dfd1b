"""Tables of next standings: nexts[s][k] follows the standing s by letter k."""


def first_of_classes(classes, nexts):
    """One standing of each class that is reached, by the least texts that lead to the classes."""
    order = [0]
    found = {classes[0]: True}
    at = 0
    while at < len(order):
        standing = order[at]
        for following in nexts[standing]:
            if classes[following] not in found:
                found[classes[following]] = True
                order.append(following)
        at += 1
    return order


def reached_in(nexts):
    """The standings that some text leads to, by the least texts that lead to them."""
    return first_of_classes(list(range(len(nexts))), nexts)


def roads_in(alphabet, nexts):
    """The least text that leads to each standing, for all standings that some text leads to."""
    roads = {0: ""}
    order = [0]
    at = 0
    while at < len(order):
        standing = order[at]
        for letter, following in zip(alphabet, nexts[standing]):
            if following not in roads:
                roads[following] = roads[standing] + letter
                order.append(following)
        at += 1
    return roads


def side_by_side(one, two):
    """All pairs of standings of two tables that some text leads to, by the least texts, and their table."""
    pairs = [(0, 0)]
    numbers = {(0, 0): 0}
    nexts = []
    while len(nexts) < len(pairs):
        first, second = pairs[len(nexts)]
        row = []
        for pair in zip(one[first], two[second]):
            if pair not in numbers:
                numbers[pair] = len(pairs)
                pairs.append(pair)
            row.append(numbers[pair])
        nexts.append(row)
    return pairs, nexts


def colors_of(kinds):
    """A number for each item, from 0 on; equal items have the same one."""
    numbers = {}
    for kind in kinds:
        numbers.setdefault(kind, len(numbers))
    return [numbers[kind] for kind in kinds]


def led_from(nexts, place):
    """For each standing the standings that lead to it by the letter at the place."""
    earlier = [[] for _ in nexts]
    for standing, row in enumerate(nexts):
        earlier[row[place]].append(standing)
    return earlier


def class_members(classes):
    """For each class the standings in it."""
    members = [[] for _ in range(max(classes) + 1)]
    for standing, number in enumerate(classes):
        members[number].append(standing)
    return members


def hits_by_class(splitter, earlier, classes):
    """The standings that lead into the splitter, listed by their classes."""
    hits = {}
    for standing in splitter:
        for before in earlier[standing]:
            hits.setdefault(classes[before], []).append(before)
    return hits


def places_in(line):
    """For each standing its place in the line."""
    places = [0] * len(line)
    for place, standing in enumerate(line):
        places[standing] = place
    return places


def stable_classes(colors, nexts):
    """The fewest classes whose standings agree in color and, letter by letter, in next class.

    colors holds a number from 0 for each standing, none of them left out.
    """
    # The standings of a class stand in line one behind the other, so that
    # splitting a class touches only those that have to be moved.
    classes = list(colors)
    line = [standing for group in class_members(colors) for standing in group]
    places = list(places_in(line))
    sizes = [len(group) for group in class_members(colors)]
    begins = [places[group[0]] for group in class_members(colors)]
    leading = [led_from(nexts, letter) for letter in range(len(nexts[0]))]
    work = list(range(len(sizes)))
    while work:
        number = work.pop()
        splitter = line[begins[number]:begins[number] + sizes[number]]
        for earlier in leading:
            hits = hits_by_class(splitter, earlier, classes)
            for old, hit in hits.items():
                if len(hit) == sizes[old]:
                    continue
                edge = begins[old] + sizes[old] - len(hit)
                for place, standing in enumerate(hit, start=edge):
                    line[places[standing]] = line[place]
                    places[line[place]] = places[standing]
                    line[place] = standing
                    places[standing] = place
                # The smaller part is the new class, so that each standing moves seldom.
                part = hit if 2 * len(hit) <= sizes[old] else line[begins[old]:edge]
                begins.append(places[part[0]])
                if begins[-1] != edge:
                    begins[old] = edge
                sizes.append(len(part))
                sizes[old] = sizes[old] - len(part)
                for standing in part:
                    classes[standing] = len(sizes) - 1
                work.append(len(sizes) - 1)
    return classes


def fewest_standings(kinds, nexts):
    """One standing for each one of the least table in which texts lead to the same kinds, and this table.

    Its standings are in the order of the least texts that lead to them.
    """
    reached = reached_in(nexts)
    numbers = {standing: number for number, standing in enumerate(reached)}
    kept = [[numbers[following] for following in nexts[standing]] for standing in reached]
    classes = stable_classes(colors_of([kinds[standing] for standing in reached]), kept)
    order = first_of_classes(classes, kept)
    places = {classes[standing]: place for place, standing in enumerate(order)}
    least = [[places[classes[following]] for following in kept[standing]] for standing in order]
    return [reached[standing] for standing in order], least
