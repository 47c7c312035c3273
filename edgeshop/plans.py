"""The fewest new tools for a list of works: plans, runs, and papers by which they are proved."""

from edgeshop.errors import BadPaper, NoneServes
from edgeshop.stocks import KINDS, is_name, is_number, is_row, is_size, named, need_stock, need_works

MOST_WORKS = 12
LAST_TOOL = 11


def need_jobs(stock, works):
    """Each work of a LIST as (KIND, LOW, HIGH), its LOW not below its kind's LEAST; with all refusals of a LIST."""
    jobs = []
    for name, kind, low, high in need_works(need_stock(stock), works, MOST_WORKS):
        least = named(stock[KINDS], kind)[1]
        if high < least:
            raise NoneServes(name)
        jobs.append((kind, max(low, least), high))
    return jobs


def are_apart(job, later):
    """Whether no tool can do both of them, one ahead of the other."""
    return job[0] != later[0] or later[1] > job[2]


def runs_to(jobs):
    """For each work the longest RUN of works of its KIND that ends with it."""
    runs = []
    for at, job in enumerate(jobs):
        # The last of a RUN tells for all of it: what is above its HIGH is above those of all ahead of it.
        ahead = [run for run in runs if jobs[run[-1]][0] == job[0] and are_apart(jobs[run[-1]], job)]
        runs.append(max(ahead, key=len, default=()) + (at,))
    return runs


def plan_of(jobs):
    """The PLAN that is told."""
    plan = []
    for at, run in enumerate(runs_to(jobs)):
        kind, _, high = jobs[at]
        tool = (kind, len(run) - 1)
        sizes = [size for its, number, size in plan if (its, number) == tool]
        plan.append((*tool, min([high] + sizes)))
    return tuple(plan)


def run_of(jobs):
    """A RUN of as many works as that PLAN has tools: the longest one of each KIND, together."""
    longest = {}
    for run in runs_to(jobs):
        kind = jobs[run[-1]][0]
        if len(run) > len(longest.get(kind, ())):
            longest[kind] = run
    return tuple(sorted([at for numbers in longest.values() for at in numbers]))


def many_tools(plan):
    """How many tools some triple names."""
    return len(set([(kind, number) for kind, number, _ in plan]))


def fewest(stock, works):
    """How many new tools a LIST needs."""
    return many_tools(plan_of(need_jobs(stock, works)))


def plan_for(stock, works):
    """The PLAN that is told for a LIST."""
    return plan_of(need_jobs(stock, works))


def paper_for(stock, works):
    """A PAPER for a LIST: the PLAN that is told, and a RUN that proves it."""
    jobs = need_jobs(stock, works)
    return plan_of(jobs), run_of(jobs)


def is_triple(thing):
    """Whether it can stand in a PLAN by its form."""
    if not is_row(thing, 3):
        return False
    return is_name(thing[0]) and is_number(thing[1], LAST_TOOL) and is_size(thing[2])


def is_rising(thing, many):
    """Whether it is a rising tuple of numbers of so many works."""
    if type(thing) is not tuple or not all([is_number(number, many - 1) for number in thing]):
        return False
    return all([number < later for number, later in zip(thing, thing[1:])])


def is_paper_form(thing, many):
    """Whether it can be a PAPER for so many works by its form."""
    if not is_row(thing, 2) or not is_row(thing[0], many):
        return False
    return all([is_triple(triple) for triple in thing[0]]) and is_rising(thing[1], many)


def can_do(job, triple, ahead):
    """Whether a work can be done as its triple tells, behind the triples ahead of it."""
    kind, low, high = job
    its, number, size = triple
    if its != kind or not low <= size <= high:
        return False
    return all([size <= was for other, which, was in ahead if (other, which) == (its, number)])


def first_undone(jobs, plan):
    """The number of the first work that its tool can't do so, or None."""
    for at, job in enumerate(jobs):
        if not can_do(job, plan[at], plan[:at]):
            return at
    return None


def first_shared(jobs, run):
    """The number of the first work of a RUN that one tool can do with one ahead of it there, or None."""
    for place, at in enumerate(run):
        if not all([are_apart(jobs[ahead], jobs[at]) for ahead in run[:place]]):
            return at
    return None


def paper_fault(jobs, paper):
    """The place by which it is no PAPER, or None."""
    if not is_paper_form(paper, len(jobs)):
        return 0
    plan, run = paper
    undone = first_undone(jobs, plan)
    if undone is not None:
        return (1, undone)
    shared = first_shared(jobs, run)
    if shared is not None:
        return (2, shared)
    return None if many_tools(plan) == len(run) else 3


def check_paper(stock, works, paper):
    """Refuses what is no PAPER for a LIST."""
    place = paper_fault(need_jobs(stock, works), paper)
    if place is not None:
        raise BadPaper(place)
