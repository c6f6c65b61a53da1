package join

import (
	"cmp"
	"slices"

	"lacquer/api"
)

// checkedTask is a task that has no error, with the number of its passages and the medians at its positions.
type checkedTask struct {
	api.JoinTask
	passages int
	medians  []int
}

// CheckTask returns the error of a task (P7.4).
func CheckTask(t api.JoinTask) api.Errno {
	_, e := checked(t)
	return e
}

// CostOf returns the cost of a choice (P7.4).
func CostOf(t api.JoinTask, names []string) (int, api.Errno) {
	task, choice, e := checkedWith(t, names)
	if e != api.OK {
		return 0, e
	}
	return task.cost(choice), api.OK
}

// BestChoice returns the best choice, and its cost (P7.4).
func BestChoice(t api.JoinTask) ([]string, int, api.Errno) {
	task, e := checked(t)
	if e != api.OK {
		return nil, 0, e
	}
	choice := task.bestChoice()
	var names []string
	for _, transfer := range choice {
		names = append(names, task.Transfers[transfer].Name)
	}
	return names, task.cost(choice), api.OK
}

func checked(t api.JoinTask) (checkedTask, api.Errno) {
	e := firstError(
		checkTransfers(t.Transfers),
		checkLength(t.Length),
		from(1, t.Length)(t.Passage),
		from(0, api.MaxJoinChange)(t.Change))
	if e != api.OK {
		return checkedTask{}, e
	}
	task := checkedTask{JoinTask: t, passages: t.Length / t.Passage}
	e = firstError(
		when(t.Length%t.Passage != 0, api.ErrShape),
		when(task.passages > api.MaxJoinPassages, api.ErrLarge),
		task.checkCovered())
	if e != api.OK {
		return checkedTask{}, e
	}
	task.medians, e = Median(t.Transfers, t.Length)
	return task, e
}

// checkedWith also checks a choice for the task, and returns the indexes of its transfers.
func checkedWith(t api.JoinTask, names []string) (checkedTask, []int, api.Errno) {
	task, e := checked(t)
	if e != api.OK {
		return checkedTask{}, nil, e
	}
	choice, e := task.choiceOf(names)
	if e != api.OK {
		return checkedTask{}, nil, e
	}
	return task, choice, api.OK
}

func (t checkedTask) checkCovered() api.Errno {
	_, e := checkItems(t.passages, func(passage int) api.Errno {
		return when(len(t.covering(passage)) == 0, api.ErrGap)
	})
	return e
}

// choiceOf returns for each passage the index of the transfer with the name.
func (t checkedTask) choiceOf(names []string) ([]int, api.Errno) {
	if len(names) != t.passages {
		return nil, api.ErrShape
	}
	var choice []int
	for passage, name := range names {
		transfer := indexOf(t.Transfers, name)
		switch {
		case transfer < 0:
			return nil, api.ErrMissing
		case !t.covers(transfer, passage):
			return nil, api.ErrGap
		}
		choice = append(choice, transfer)
	}
	return choice, api.OK
}

func (t checkedTask) positionsOf(passage int) api.Range {
	first := passage * t.Passage
	return api.Range{Lo: first, Hi: first + t.Passage - 1}
}

func (t checkedTask) covers(transfer, passage int) bool {
	x, r := t.Transfers[transfer], t.positionsOf(passage)
	return r.Lo+x.Lag >= 0 && r.Hi+x.Lag < len(x.Samples)
}

// covering returns the indexes of the transfers that cover a passage.
func (t checkedTask) covering(passage int) []int {
	var transfers []int
	for transfer := range t.Transfers {
		if t.covers(transfer, passage) {
			transfers = append(transfers, transfer)
		}
	}
	return transfers
}

// deviation returns the deviation of a transfer in a passage that it covers.
func (t checkedTask) deviation(transfer, passage int) int {
	x := t.Transfers[transfer]
	sum := 0
	for position, sample := range shifted(x.Samples, x.Lag, t.positionsOf(passage)) {
		sum += size(sample - t.medians[position])
	}
	return sum
}

// change returns the cost of going from a transfer to another one, or of keeping it.
func (t checkedTask) change(from, to int) int {
	if from == to {
		return 0
	}
	return t.Change
}

func (t checkedTask) cost(choice []int) int {
	sum := 0
	for passage, transfer := range choice {
		sum += t.deviation(transfer, passage)
		if passage > 0 {
			sum += t.change(choice[passage-1], transfer)
		}
	}
	return sum
}

// bestChoice returns the indexes of the transfers of the best choice: at each passage the first name with which the minimum cost can still be reached.
func (t checkedTask) bestChoice() []int {
	rests := t.rests()
	choice := []int{t.cheapest(0, func(transfer int) int { return rests[0][transfer] })}
	for passage := 1; passage < t.passages; passage++ {
		before := choice[passage-1]
		choice = append(choice, t.cheapest(passage, func(transfer int) int {
			return t.change(before, transfer) + rests[passage][transfer]
		}))
	}
	return choice
}

// rests returns, for each passage and each transfer that covers it, the minimum cost of the rest of a choice that goes on with it there.
func (t checkedTask) rests() [][]int {
	rests := make([][]int, t.passages)
	for passage := t.passages - 1; passage >= 0; passage-- {
		rests[passage] = make([]int, len(t.Transfers))
		for _, transfer := range t.covering(passage) {
			rest := t.deviation(transfer, passage)
			if passage+1 < t.passages {
				goOn := func(next int) int { return t.change(transfer, next) + rests[passage+1][next] }
				rest += goOn(t.cheapest(passage+1, goOn))
			}
			rests[passage][transfer] = rest
		}
	}
	return rests
}

// cheapest returns the transfer with the minimum cost of those that cover a passage, the first one by name of several.
func (t checkedTask) cheapest(passage int, cost func(transfer int) int) int {
	return slices.MinFunc(t.covering(passage), func(a, b int) int {
		return cmp.Or(
			cmp.Compare(cost(a), cost(b)),
			cmp.Compare(t.Transfers[a].Name, t.Transfers[b].Name))
	})
}
