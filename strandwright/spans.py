"""Spans of numbers, those of them that are whole, and the points that are a whole span's own."""


def spans_from(numbers, begin):
    found = []
    low = abs(numbers[begin])
    high = low
    for place in range(begin + 1, len(numbers)):
        low = min(low, abs(numbers[place]))
        high = max(high, abs(numbers[place]))
        # No number stands twice, so nothing is lacking from low to high where there are so many.
        full = high - low == place - begin
        if full and (numbers[begin], numbers[place]) in ((low, high), (-high, -low)):
            found.append((begin, place))
    return found


def spans_of(numbers):
    spans = {}
    for begin in range(len(numbers)):
        for span in spans_from(numbers, begin):
            spans[span] = True
    return spans


def falls_apart(span, spans):
    return any([(span[0], place) in spans and (place, span[1]) in spans for place in range(span[0] + 1, span[1])])


def whole_spans(numbers):
    spans = spans_of(numbers)
    return [span for span in sorted(spans) if not falls_apart(span, spans)]


def within(span, other):
    return span != other and other[0] <= span[0] and span[1] <= other[1]


def points_in(span):
    return list(range(span[0], span[1]))


def own_of(span, wholes):
    taken = {}
    for inner in wholes:
        if within(inner, span):
            for point in points_in(inner):
                taken[point] = True
    return [point for point in points_in(span) if point not in taken]


def own_points(numbers):
    wholes = whole_spans(numbers)
    own = {}
    for span in wholes:
        own[span] = own_of(span, wholes)
    return own
