package join

import (
	"iter"

	"lacquer/api"
)

// PlanOf returns the plan of a choice (P7.6).
func PlanOf(t api.JoinTask, names []string) (api.JoinPlan, api.Errno) {
	task, choice, e := checkedWith(t, names)
	if e != api.OK {
		return api.JoinPlan{}, e
	}
	plan := api.JoinPlan{Length: task.Length}
	for passage, transfer := range choice {
		if passage > 0 && transfer == choice[passage-1] {
			continue
		}
		plan.Pieces = append(plan.Pieces, api.JoinPiece{
			From:   task.positionsOf(passage).Lo,
			Source: transfer,
			Lag:    task.Transfers[transfer].Lag,
		})
	}
	return plan, api.OK
}

// CheckPlan returns the error of a plan, and the index of the piece that has it (P7.6).
func CheckPlan(p api.JoinPlan) (int, api.Errno) {
	e := firstError(
		checkLength(p.Length),
		when(len(p.Pieces) == 0, api.ErrShape),
		when(len(p.Pieces) > api.MaxJoinPassages, api.ErrLarge))
	if e != api.OK {
		return 0, e
	}
	return checkItems(len(p.Pieces), func(i int) api.Errno {
		return firstError(
			from(0, api.MaxJoinTransfers-1)(p.Pieces[i].Source),
			checkLag(p.Pieces[i].Lag),
			when(!isOrdered(p, i), api.ErrOrder))
	})
}

// SourceAt returns the source from which a position of a plan is taken, and the index in it (P7.6).
func SourceAt(p api.JoinPlan, position int) (int, int, api.Errno) {
	if e := firstError(checkPlan(p), from(0, p.Length-1)(position)); e != api.OK {
		return 0, 0, e
	}
	source, index := sourceAt(p, position)
	return source, index, api.OK
}

// Joined returns the result of a plan (P7.6).
func Joined(p api.JoinPlan, signals [][]int) ([]int, api.Errno) {
	e := firstError(
		checkPlan(p),
		when(len(signals) > api.MaxJoinTransfers, api.ErrLarge),
		checkSignals(signals))
	if e != api.OK {
		return nil, e
	}
	var result []int
	for source, index := range sources(p) {
		switch {
		case source >= len(signals):
			return nil, api.ErrMissing
		case index < 0 || index >= len(signals[source]):
			return nil, api.ErrGap
		}
		result = append(result, signals[source][index])
	}
	return result, api.OK
}

// checkPlan returns the error of a plan without its index.
func checkPlan(p api.JoinPlan) api.Errno {
	_, e := CheckPlan(p)
	return e
}

func checkSignals(signals [][]int) api.Errno {
	_, e := checkItems(len(signals), func(i int) api.Errno { return checkSignal(signals[i]) })
	return e
}

// isOrdered tells whether a piece of a plan begins where it may.
func isOrdered(p api.JoinPlan, piece int) bool {
	first := p.Pieces[piece].From
	if piece == 0 {
		return first == 0
	}
	return first > p.Pieces[piece-1].From && first < p.Length
}

// sourceAt returns the source from which a position is taken, and the index in it, which it may not have.
func sourceAt(p api.JoinPlan, position int) (source, index int) {
	for _, piece := range p.Pieces {
		if piece.From <= position {
			source, index = piece.Source, position+piece.Lag
		}
	}
	return source, index
}

// sources yields for each position of a plan, ascending, the source from which it is taken, and the index in it.
func sources(p api.JoinPlan) iter.Seq2[int, int] {
	return func(yield func(source, index int) bool) {
		for position := range p.Length {
			source, index := sourceAt(p, position)
			if !yield(source, index) {
				return
			}
		}
	}
}
