"""Teams: machines that clean one floor by turns and share a chart."""

from dustwalk.areas import need_dock
from dustwalk.charts import Chart
from dustwalk.walker import clean


def team(machines):
    """A tuple of the team's chart in the end and a list of each machine's steps, or NoDock, Clash."""
    crew = list(machines)
    for machine in crew:
        need_dock(machine[3])
    chart = Chart()
    steps = ["" for machine in crew]
    going = True
    while going:
        before = len(chart.stood())
        for i, machine in enumerate(crew):
            report = clean(machine[0], machine[1], machine[2], machine[3], chart)
            chart = report.chart
            steps[i] = steps[i] + report.steps
        going = len(chart.stood()) > before
    return (chart, steps)
