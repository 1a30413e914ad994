"""The functions and errors that have landed, as the interface of the document lists them."""

import importlib

ERRORS = {
    "NoNumber": (LookupError, ("number",)),
    "NoRow": (LookupError, ("row",)),
    "BadLine": (ValueError, ("number",)),
    "Barred": (ValueError, ("number",)),
    "CanNot": (ValueError, ()),
    "Held": (ValueError, ("number",)),
    "Late": (ValueError, ("number",)),
    "Pinched": (ValueError, ()),
    "Twice": (ValueError, ("row",)),
    "Unfit": (ValueError, ()),
}

SIGNATURES = {
    "jobs": """is_step(thing) is_job(thing) is_jobs(thing) rows_of(jobs) reads_of(job) writes_of(job)
        who_reads(jobs,row) who_writes(jobs,row) step_at(jobs,place,step) levels_of(jobs)
        with_level(jobs,place,level) with_levels(jobs,levels) do_clash(jobs,one,other) clashes(jobs)
        clashing_steps(jobs,one,other) lots(jobs) way_between(jobs,one,other) idle_steps(jobs) lean(jobs)
        with_job(jobs,job) without_job(jobs,place) part_of(jobs,some) turned(jobs,order)
        with_step(jobs,place,number,new) without_step(jobs,place,step) renamed(jobs,row,new) lettered(jobs)""",
    "mixes": """is_mix(jobs,thing) how_many(jobs) all_mixes(jobs) nth_mix(jobs,number) number_of(jobs,mix)
        begins(jobs,mix) commits(jobs,mix) moves_of(jobs,mix,place) done_at(jobs,mix,move)
        are_beside(jobs,mix,one,other) pairs_beside(jobs,mix) open_at(jobs,mix,move) order_of(jobs,mix)
        whole_mix(jobs,order) is_whole(jobs,mix) whole_mixes(jobs) how_many_by(jobs,order)
        swapped(jobs,mix,move) neighbours(jobs,mix) distance(jobs,one,other) swaps_between(jobs,one,other)
        is_swaps_between(jobs,one,other,thing) part_mix(jobs,mix,some)""",
    "store": """held_at(jobs,mix,move) versions_at(jobs,mix,row,move) seen_at(jobs,mix,move) seen_by(jobs,mix)
        outcome(jobs,mix) is_let(jobs,mix) first_barred(jobs,mix) barred_moves(jobs,mix)
        barred_by(jobs,mix,move) pinches(jobs,mix) is_pinch(jobs,mix,thing) is_beginning(jobs,thing)
        may_come(jobs,done) how_many_let(jobs,done) first_let(jobs,done) all_let(jobs) nth_let(jobs,number)""",
    "orders": """edges(jobs,mix) broken_by(jobs,mix,order) is_ring(edges,thing) ring_in(edges) least_ring(edges)
        all_rings(edges) knots(edges) is_straight(jobs,mix) straight_orders(jobs,mix) how_many_orders(jobs,mix)
        nth_order(jobs,mix,number) least_order(jobs,mix) is_straight_order(jobs,mix,thing)
        surely_ahead(jobs,mix) either_way(jobs,mix) spoilt_at(jobs,mix) nearest_order(jobs,mix)""",
    "splits": """is_split(jobs,thing) safe(jobs) split_in(jobs) split_at(jobs,head,place) split_heads(jobs)
        fewest_others(jobs,head,place) least_split(jobs) all_splits(jobs,many) let_between(jobs,head,place)
        reached(jobs,head,place) is_why(jobs,head,place,thing) split_mix(jobs,split) split_ring(jobs,split)
        safe_lots(jobs) spoilers(jobs)""",
    "levels": """is_giving(jobs,thing) is_enough(jobs,levels) least_levels(jobs) least_level(jobs,place)
        all_enough(jobs) lesser_of(jobs,levels,other) levels_with(jobs,job) raised_by(jobs,job)
        lowered_without(jobs,place) costly_steps(jobs,place) who_costs(jobs,place) cheapest(jobs,prices)
        price_of(jobs,prices,levels) split_below(jobs,place) is_split_below(jobs,place,thing)
        enough_within(jobs,some) fewest_watched(jobs)""",
    "changes": """is_order(jobs,place,thing) with_order(jobs,place,order) fine_orders(jobs,place) best_order(jobs,place)
        is_holding(jobs,thing) held(jobs,holding) saving_holdings(jobs) cheapest_holding(jobs,prices)
        is_cuts(jobs,thing) pieces_of(jobs,cuts) keeps_cuts(jobs,cuts,mix) is_unbroken(jobs,cuts,mix)
        lots_beside(jobs,place) are_clean(jobs,cuts) are_right(jobs,cuts) finest_cuts(jobs) joining(jobs,cuts)
        is_joining(jobs,cuts,thing) breaking_mix(jobs,cuts) is_breaking_mix(jobs,cuts,thing)
        fewest_away(jobs,place,number) roads_past(jobs,place,number) are_roads_past(jobs,place,number,thing)""",
    "fillings": """is_program(thing) is_company(programs,lone,thing) filled(programs,company) as_programs(jobs)
        are_safe(programs,lone) fewest_copies(programs,lone) safe_up_to(programs,lone,many)
        bad_company(programs,lone) is_bad_company(programs,lone,thing) bad_heads(programs,lone)
        greatest_safe(programs,lone) saving_tables(programs,lone) with_lone(programs,lone,table)
        is_enough_for(programs,lone,levels) least_for(programs,lone) least_for_more(programs,lone,program)""",
    "histories": """is_tale(jobs,thing) needs(jobs,tale) comes(jobs,tale) mix_of(jobs,tale) is_mix_of(jobs,tale,thing)
        tale_by(jobs,mix) needs_ring(jobs,tale) is_needs_ring(jobs,tale,thing) how_many_of(jobs,tale)
        nth_of(jobs,tale,number) surely_beside(jobs,tale) maybe_beside(jobs,tale) surely_first(jobs,tale)
        same_tale(jobs,one,other) tale_swaps(jobs,one,other) is_tale_swaps(jobs,one,other,thing)
        givings(jobs,tale) highest_givings(jobs,tale) rows_for(jobs,seen) tale_for(jobs,seen)""",
    "sessions": """is_ahead(jobs,thing) ahead_of_sessions(jobs,sessions) ahead_of_rounds(jobs,rounds)
        leads(jobs,ahead,one,other) is_short_mix(jobs,thing) who_come(jobs,mix) come_alone(jobs,mix)
        keeps_ahead(jobs,ahead,mix) is_let_short(jobs,mix) rows_by(jobs,ahead,mix) is_straight_by(jobs,ahead,mix)
        is_split_by(jobs,ahead,thing) split_by(jobs,ahead) is_safe_by(jobs,ahead) short_mix_of(jobs,ahead,split)
        least_by(jobs,ahead) healing_pairs(jobs,ahead) spoiling_pairs(jobs,ahead) fewest_rounds(jobs)
        rounds_for(jobs)""",
    "gaps": """cell_of(keys,number) touched(keys,low,high) bars_all(keys,low,high,cells) barred_beside(keys,low,high)
        phantoms(keys,jobs) barred_for_nothing(keys,jobs) fences(keys,jobs) fence_paper(keys,jobs)
        is_fence_paper(keys,jobs,thing)""",
    "ranges": """is_range_jobs(thing) written(jobs) as_jobs(jobs) is_range_mix(jobs,thing) is_let_by_ranges(jobs,mix)
        is_straight_by_ranges(jobs,mix) range_outcome(jobs,mix) range_split(jobs) is_range_split(jobs,thing)
        are_safe_ranges(jobs) split_numbers(jobs,split) bad_range_mix(jobs) is_bad_range_mix(jobs,thing)""",
    "waits": """is_kept(jobs,thing) open_jobs(jobs,done) held_rows(jobs,done,place) waits_for(jobs,done,place)
        may_move(jobs,done) ahead_pairs(jobs,done) late_pairs(jobs,done) ending(jobs,done)
        is_ending(jobs,done,thing) how_many_endings(jobs,done) loss(jobs,done) is_loss(jobs,done,thing)
        can_end(jobs,done) safe_moves(jobs,done)""",
    "smooth": """is_jam(jobs,thing) least_jam(jobs) bare_jobs(jobs) is_smooth(jobs) stumble(jobs) is_stumble(jobs,thing)
        smooth_levels(jobs)""",
    "sweeps": """is_history(thing) how_many_commits(history) open_readers(history) opened_at(history,number)
        versions_of(history,row) seen_version(history,number,row) seers(history,row,number) wanted(history,row)
        spare(history) use_of(history,row,number) is_use_of(history,row,number,thing) freed_by(history,number)
        fewest_to_shut(history,row,number) kept_by_oldest(history,row) needless(history) is_sweeps(history,thing)
        first_wrong(history,sweeps) most_kept(history) history_of(jobs,mix)""",
    "blame": """hurts(jobs,mix,levels) barred_with(jobs,mix,levels) hurting_levels(jobs,mix) letting_levels(jobs,mix)
        refusing_raises(jobs,mix) clearing_raises(jobs,mix) single_raises(jobs,mix) undo_sets(jobs,mix)
        lone_undos(jobs,mix) cheapest_undone(jobs,mix,prices) is_enough_undone(jobs,mix,some)
        refused_in_turn(jobs,mix) split_shown(jobs,mix) is_split_shown(jobs,mix,thing)""",
    "log": """is_deeds(pages,thing) records_of(deeds) log_ahead(deeds,number) log_disks(pages,deeds,number)
        read_on(pages,deeds,disk) due_of(pages,deeds,many) is_right(pages,deeds,number,disk)
        bare_cells(pages,deeds,number) bare_told(deeds,number) breach(pages,deeds) is_breach(pages,deeds,thing)
        log_first(pages,deeds,page) tell_first(deeds,writer)""",
    "judge": """is_claim(thing) stands(claim) paper_against(claim) is_paper_against(claim,thing) first_fallen(claims)
        reason_for(claim) is_reason_for(claim,thing) levels_that_mend(claim)""",
    "texts": """jobs_text(jobs) mix_text(mix) levels_text(levels) split_text(split) outcome_text(outcome) read_jobs(text)
        read_mix(text) read_levels(text) read_split(text) read_outcome(text)""",
    "desk": """is_request(thing) replies(rows,text)""",
}

BOARD = """enter(level) read(worker,row) write(worker,row,value) commit(worker) drop(worker) flush() fall(many) sweep()
    twin() rows() versions(row) holder(row) level(worker) steps(worker) state(worker) workers(state) told() log() jobs()
    mix() straight_so_far() safe_so_far() needed() too_low()"""


def split_call(word):
    """The name and the names of the arguments."""
    name, arguments = word.rstrip(")").split("(")
    return name, tuple(arguments.split(",")) if arguments else ()


def methods():
    """Pairs of each method of a Board and the names of its arguments."""
    return [split_call(word) for word in BOARD.split()]


def listed():
    """The triples (module, function, names of its arguments) of the interface."""
    triples = []
    for module, text in SIGNATURES.items():
        for word in text.split():
            triples.append((module,) + split_call(word))
    return triples


def module_of(name):
    return importlib.import_module("nosplit." + name)


def all_names():
    """All functions, errors and the Board under their names, as the examples of the document use them."""
    names = {name: getattr(module_of("errors"), name) for name in ERRORS}
    names["Board"] = module_of("board").Board
    for module, name, _ in listed():
        names[name] = getattr(module_of(module), name)
    return names
