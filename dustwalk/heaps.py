"""Heaps: lists from which the least entry is taken first.

No entry is less than the one above it; above the place k stands the place (k - 1) // 2.
"""


def push(heap, entry):
    """Put an entry into a heap."""
    heap.append(entry)
    place = len(heap) - 1
    while place > 0 and entry < heap[(place - 1) // 2]:
        heap[place] = heap[(place - 1) // 2]
        place = (place - 1) // 2
    heap[place] = entry


def pop_least(heap):
    """Take the least entry out of a heap that has one."""
    least = heap[0]
    last = heap.pop()
    if len(heap) > 0:
        sink(heap, last)
    return least


def sink(heap, entry):
    """Put an entry in the stead of the topmost one, and let it down to where it belongs."""
    place = 0
    below = lesser_below(heap, place)
    while below < len(heap) and heap[below] < entry:
        heap[place] = heap[below]
        place = below
        below = lesser_below(heap, place)
    heap[place] = entry


def lesser_below(heap, place):
    """The place of the lesser of the two entries below a place; one beyond the heap where there is none."""
    below = 2 * place + 1
    if below + 1 < len(heap) and heap[below + 1] < heap[below]:
        return below + 1
    return below
