"""The functions and errors that have landed, as the interface of the document lists them."""

import importlib

ERRORS = {
    "NoNumber": (LookupError, ("number",)),
    "NoRow": (LookupError, ("row",)),
    "BadLine": (ValueError, ("number",)),
    "Barred": (ValueError, ("number",)),
    "CanNot": (ValueError, ()),
    "Held": (ValueError, ("number",)),
    "Late": (ValueError, ("number",)),
    "Pinched": (ValueError, ()),
    "Twice": (ValueError, ("row",)),
    "Unfit": (ValueError, ()),
}

SIGNATURES = {
    "jobs": """is_step(thing) is_job(thing) is_jobs(thing) rows_of(jobs) reads_of(job) writes_of(job)
        who_reads(jobs,row) who_writes(jobs,row) step_at(jobs,place,step) levels_of(jobs)
        with_level(jobs,place,level) with_levels(jobs,levels) do_clash(jobs,one,other) clashes(jobs)
        clashing_steps(jobs,one,other) lots(jobs) way_between(jobs,one,other) idle_steps(jobs) lean(jobs)
        with_job(jobs,job) without_job(jobs,place) part_of(jobs,some) turned(jobs,order)
        with_step(jobs,place,number,new) without_step(jobs,place,step) renamed(jobs,row,new) lettered(jobs)""",
    "mixes": """is_mix(jobs,thing) how_many(jobs) all_mixes(jobs) nth_mix(jobs,number) number_of(jobs,mix)
        begins(jobs,mix) commits(jobs,mix) moves_of(jobs,mix,place) done_at(jobs,mix,move)
        are_beside(jobs,mix,one,other) pairs_beside(jobs,mix) open_at(jobs,mix,move) order_of(jobs,mix)
        whole_mix(jobs,order) is_whole(jobs,mix) whole_mixes(jobs) how_many_by(jobs,order)
        swapped(jobs,mix,move) neighbours(jobs,mix) distance(jobs,one,other) swaps_between(jobs,one,other)
        is_swaps_between(jobs,one,other,thing) part_mix(jobs,mix,some)""",
    "store": """held_at(jobs,mix,move) versions_at(jobs,mix,row,move) seen_at(jobs,mix,move) seen_by(jobs,mix)
        outcome(jobs,mix) is_let(jobs,mix) first_barred(jobs,mix) barred_moves(jobs,mix)
        barred_by(jobs,mix,move) pinches(jobs,mix) is_pinch(jobs,mix,thing) is_beginning(jobs,thing)
        may_come(jobs,done) how_many_let(jobs,done) first_let(jobs,done) all_let(jobs) nth_let(jobs,number)""",
    "orders": """edges(jobs,mix) broken_by(jobs,mix,order) is_ring(edges,thing) ring_in(edges) least_ring(edges)
        all_rings(edges) knots(edges) is_straight(jobs,mix) straight_orders(jobs,mix) how_many_orders(jobs,mix)
        nth_order(jobs,mix,number) least_order(jobs,mix) is_straight_order(jobs,mix,thing)
        surely_ahead(jobs,mix) either_way(jobs,mix) spoilt_at(jobs,mix) nearest_order(jobs,mix)""",
    "splits": """is_split(jobs,thing) safe(jobs) split_in(jobs) split_at(jobs,head,place) split_heads(jobs)
        fewest_others(jobs,head,place) least_split(jobs) all_splits(jobs,many) let_between(jobs,head,place)
        reached(jobs,head,place) is_why(jobs,head,place,thing) split_mix(jobs,split) split_ring(jobs,split)
        safe_lots(jobs) spoilers(jobs)""",
    "levels": """is_giving(jobs,thing) is_enough(jobs,levels) least_levels(jobs) least_level(jobs,place)
        all_enough(jobs) lesser_of(jobs,levels,other) levels_with(jobs,job) raised_by(jobs,job)
        lowered_without(jobs,place) costly_steps(jobs,place) who_costs(jobs,place) cheapest(jobs,prices)
        price_of(jobs,prices,levels) split_below(jobs,place) is_split_below(jobs,place,thing)
        enough_within(jobs,some) fewest_watched(jobs)""",
}


def listed():
    """The triples (module, function, names of its arguments) of the interface."""
    triples = []
    for module, text in SIGNATURES.items():
        for word in text.split():
            name, arguments = word.rstrip(")").split("(")
            triples.append((module, name, tuple(arguments.split(","))))
    return triples


def module_of(name):
    return importlib.import_module("nosplit." + name)


def all_names():
    """All functions and errors under their names, as the examples of the document use them."""
    names = {name: getattr(module_of("errors"), name) for name in ERRORS}
    for module, name, _ in listed():
        names[name] = getattr(module_of(module), name)
    return names
