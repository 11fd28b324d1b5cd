"""Reports: what a walker tells when it has come home."""


class Report:
    """The chart in the end, the steps made, the cells left, and the outs and homes that show why."""

    def __init__(self, chart, steps, left, outs, homes):
        self.chart = chart
        self.steps = steps
        self.left = list(left)
        self.outs = dict(outs)
        self.homes = dict(homes)
