"""[2]: what holds of all functions: nothing is changed, equal calls return equal plain results, nothing is shared."""

import random
import unittest

from dutyweeks import changes, claims, cores, desk, duties, leads, machines, means, papers, posts, rotas, rounds, rules, spans
from dutyweeks.errors import DutyError
from dutyweeks.tasks import Case, Task, fits
from tests import reckon, reckon_claims, reckon_day
from tests.samples import Tuple, is_plain, own

JOBS = ((0, 10), (5, 15), (12, 20), (40, 50))


def sight(value):
    """All that is in the value, objects too, as plain tuples that tell their kinds."""
    if isinstance(value, (list, tuple)):
        return (type(value).__name__,) + tuple(sight(part) for part in value)
    if hasattr(value, "__dict__"):
        return (type(value).__name__,) + tuple((name, sight(part)) for name, part in sorted(vars(value).items()))
    return (type(value).__name__, value)


def calls_of_tasks(source, task):
    """Calls of all functions that take a task, as pairs of a function and its arguments."""
    dislikes = reckon.random_dislikes(source, task)
    loads = tuple(source.randint(0, 9) for _ in range(task.machines[0].letters))
    p, q = source.randrange(len(task.machines)), source.randrange(len(task.machines))
    fixed, old = reckon.random_fixed(source, task, 2), reckon.random_deals(source, task, 2)
    told = [(machines.least, task.machines[0]), (fits, task, 0, reckon.deals_of(task)[0]), (rotas.is_rota, task, old),
            (rotas.state_after, task, old[:1]), (rotas.moves, task, ()), (rotas.reached, task), (rounds.longest, task),
            (rounds.round_of, task), (rounds.heights, task), (means.is_dislikes, task, dislikes), (means.least_mean, task, dislikes),
            (means.mean_paper, task, dislikes), (leads.least_lead, task, loads, p, q), (leads.lead_round, task, loads, p, q),
            (spans.count, task, 2), (spans.best, task, dislikes, 2), (spans.best_paper, task, dislikes, 2),
            (changes.is_fixed, task, 2, fixed), (changes.forced, task, 2, fixed), (changes.nearest, task, 2, fixed, old),
            (changes.walls, task, 2, fixed)]
    return told + [(rounds.round_holds, task, result(told[7])), (rounds.heights_hold, task, result(told[8])),
                   (means.mean_holds, task, dislikes, result(told[10]), result(told[11])),
                   (leads.lead_holds, task, loads, p, q, result(told[12]), result(told[13])),
                   (spans.best_holds, task, dislikes, 2, result(told[15]), result(told[16])),
                   (changes.walls_hold, task, 2, fixed, result(told[20]))]


def calls_of_cases(source, case):
    question = reckon_claims.random_question(source, case, 2)
    claim, paper = claims.answer_of(case, question), papers.paper_of(case, question)
    some = cores.parts(case)[::2]
    return [(cores.parts, case), (cores.with_parts, case, some), (cores.core, case), (cores.core_paper, case),
            (cores.core_holds, case, result((cores.core, case)), result((cores.core_paper, case))),
            (claims.is_question, case, question), (claims.is_claim, case, claim), (claims.answer_of, case, question),
            (claims.question_of, case, claim), (papers.paper_of, case, question), (papers.claim_holds, case, claim, paper),
            (rules.machine_of, case.rules[0], case.letters), (rules.keeps, case.rules[0], case.letters, (0, 1, 1))]


def calls_of_days(source):
    skills, numbers = reckon_day.random_skills(source), reckon_day.random_posts(source)
    jobs, rest = reckon_day.random_jobs(source), source.choice((0, 3))
    strung = duties.duties(jobs, rest)
    return [(posts.filled, skills, numbers), (posts.short_posts, skills, numbers), (posts.short_holds, skills, numbers, (0,)),
            (duties.crews, jobs, rest), (duties.duties, jobs, rest), (duties.apart_jobs, jobs, rest),
            (duties.is_duties, jobs, rest, strung), (duties.cost_of, jobs, rest, 20, 2, strung), (duties.cheapest, jobs, rest, 20, 2),
            (duties.job_prices, jobs, rest, 20, 2), (duties.apart_holds, jobs, rest, 1, (0,)),
            (duties.job_prices_hold, jobs, rest, 20, 2, 0, duties.job_prices(jobs, rest, 20, 2))]


def result(call):
    """What the call returns, or a list of the class of what it raises and what that keeps."""
    function, *told = call
    try:
        return function(*told)
    except DutyError as error:
        return [type(error).__name__] + list(vars(error).values())


def calls(seed, many=40):
    source = random.Random(seed)
    found = [calls_of_days(source) for _ in range(many)]
    found += [calls_of_tasks(source, task) for task in reckon.random_tasks(seed, many)]
    return found + [calls_of_cases(source, case) for case in reckon.random_cases(seed, many)]


class WholeTest(unittest.TestCase):
    def test_equal_calls_return_equal_plain_results(self):
        for call in [call for some in calls(200) for call in some]:
            found = result(call)
            self.assertEqual(sight(result(call)), sight(found))
            self.assertTrue(is_plain(found))
            # All functions are fed with copies of objects and with tuples of a class of their own too.
            self.assertEqual(sight(result([call[0]] + [self.copy(part) for part in call[1:]])), sight(found))
            owned = result([call[0]] + [own(part) for part in call[1:]])
            self.assertEqual(owned, found)
            self.assertTrue(is_plain(owned))

    def copy(self, value):
        if isinstance(value, Task):
            return Task(tuple(machines.Machine(machine.letters, machine.table) for machine in value.machines), value.wants)
        return Case(value.letters, value.rules, value.wants) if isinstance(value, Case) else value

    def test_arguments_are_not_changed(self):
        for call in [call for some in calls(201) for call in some]:
            before = sight(call[1:])
            result(call)
            self.assertEqual(sight(call[1:]), before)

    def test_nothing_is_shared(self):
        # One by one, and then all of them in another order, twice.
        told = [call for some in calls(202, 15) for call in some]
        found = [sight(result(call)) for call in told]
        places = list(range(len(told))) * 2
        random.Random(203).shuffle(places)
        for place in places:
            self.assertEqual(sight(result(told[place])), found[place])

    def test_what_is_returned_stays_as_it_is(self):
        case = reckon.random_cases(204, 1)[0]
        one = desk.Desk(case)
        one.watch(("endless",))
        kept = (one.watched, one.claim(("endless",)), one.paper(("endless",)), one.report())
        before = sight(kept)
        one.longer(())
        one.leave(("endless",))
        one.undo()
        self.assertEqual(sight(kept), before)

    def test_results_of_tuples_of_their_own_are_plain(self):
        jobs = Tuple([Tuple(job) for job in JOBS])
        for value in (duties.duties(jobs, 2), duties.apart_jobs(jobs, 2), duties.cheapest(jobs, 2, 20, 1), duties.job_prices(jobs, 2, 20, 1)):
            self.assertTrue(is_plain(value))


if __name__ == "__main__":
    unittest.main()
