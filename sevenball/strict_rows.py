"""The rows of the least machine of a set: the strict one with the fewest standings."""

from sevenball.checks import LETTERS

# A standing that words lead to with their last letter is told by one number: nine times the
# standing, and the index of the letter; this one stands for no letter.
NO_LETTER = 8
# For each last letter the index of the one that cannot follow it.
BARRED = (4, 5, 6, 7, 0, 1, 2, 3, NO_LETTER)


def strict_of(rows, blank):
    """The rows of the least machine, in which strings that are no words come to the mark blank."""
    marks, nexts = unfolded(rows, blank)
    return numbered_anew(marks, nexts, blocks_of(marks, nexts))


def unfolded(rows, blank):
    """The marks and the nexts of a machine that tells each standing and last letter apart.

    Its node 0 is where strings come to that are no words, node 1 is where it begins; words lead to
    all the others.
    """
    marks = [blank, rows[0][0]]
    nexts = [(0,) * len(LETTERS)]
    numbers = {NO_LETTER: 1}
    keys = [NO_LETTER]
    at = 0
    while at < len(keys):
        standing, last = divmod(keys[at], 9)
        row = []
        for letter, to in enumerate(rows[standing][1]):
            key = 9 * to + letter
            if letter != BARRED[last] and key not in numbers:
                numbers[key] = len(marks)
                keys.append(key)
                marks.append(rows[to][0])
            row.append(0 if letter == BARRED[last] else numbers[key])
        nexts.append(tuple(row))
        at += 1
    return marks, nexts


def blocks_of(marks, nexts):
    """For each node the number of its block: nodes in one block come to the same marks by all strings."""
    block = list(first_blocks(marks))
    before = led_from(nexts)
    members = [{} for _ in marks]
    for node, at in enumerate(block):
        members[at][node] = True
    used = len(set(block))
    waiting = [at < used for at in range(len(marks))]
    work = list(range(used))
    while work:
        splitter = work.pop()
        waiting[splitter] = False
        held = list(members[splitter])
        for letter in range(len(LETTERS)):
            hits = led_there(before, letter * len(nexts), held, block)
            for at, found in hits.items():
                left = len(members[at]) - len(found)
                if left == 0:
                    continue
                for node in found:
                    members[at].pop(node)
                    members[used][node] = True
                    block[node] = used
                # Of a block that does not wait it is enough to look at the smaller part.
                part = used if waiting[at] or len(found) <= left else at
                waiting[part] = True
                work.append(part)
                used += 1
    return block


def first_blocks(marks):
    """For each node the number of its mark, in the order in which they come."""
    numbers = {}
    for mark in marks:
        numbers.setdefault(mark, len(numbers))
    return [numbers[mark] for mark in marks]


def led_from(nexts):
    """For each letter, and for each node, the list of the nodes from which the letter leads there, all in a row."""
    before = [[] for _ in range(len(LETTERS) * len(nexts))]
    for node, row in enumerate(nexts):
        for letter, to in enumerate(row):
            before[letter * len(nexts) + to].append(node)
    return before


def led_there(before, first, held, block):
    """By their blocks the nodes that a letter leads to those held; first is where its lists begin."""
    hits = {}
    for node in held:
        for other in before[first + node]:
            hits.setdefault(block[other], []).append(other)
    return hits


def numbered_anew(marks, nexts, block):
    """The rows of the blocks, in the order of the least strings that lead to them from node 1."""
    chosen = {}
    for node, at in enumerate(block):
        chosen.setdefault(at, node)
    order = [block[1]]
    numbers = {block[1]: 0}
    rows = []
    at = 0
    while at < len(order):
        node = chosen[order[at]]
        row = []
        for to in nexts[node]:
            if block[to] not in numbers:
                numbers[block[to]] = len(order)
                order.append(block[to])
            row.append(numbers[block[to]])
        rows.append((marks[node], tuple(row)))
        at += 1
    return tuple(rows)
