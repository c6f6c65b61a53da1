package join

import "lacquer/api"

// Prices returns prices that prove the cost of the best choice (P7.5): each one is as great as it may be.
func Prices(t api.JoinTask) (api.JoinPrices, api.Errno) {
	task, e := checked(t)
	if e != api.OK {
		return nil, e
	}
	prices := make(api.JoinPrices, task.passages)
	for passage := range prices {
		prices[passage] = make([]int, len(task.Transfers))
		for _, transfer := range task.covering(passage) {
			prices[passage][transfer] = task.maxPrice(prices, passage, transfer)
		}
	}
	return prices, api.OK
}

// CheckPrices accepts prices, and returns their bound (P7.5).
func CheckPrices(t api.JoinTask, p api.JoinPrices) (int, api.Errno) {
	task, e := checked(t)
	if e != api.OK {
		return 0, e
	}
	if e := task.checkRows(p); e != api.OK {
		return 0, e
	}
	if e := task.checkProof(p); e != api.OK {
		return 0, e
	}
	last := task.passages - 1
	price := func(transfer int) int { return p[last][transfer] }
	return price(task.cheapest(last, price)), api.OK
}

// checkRows returns the error of what might be prices, whether they are or not.
func (t checkedTask) checkRows(p api.JoinPrices) api.Errno {
	if len(p) != t.passages {
		return api.ErrShape
	}
	_, e := checkItems(len(p), func(passage int) api.Errno {
		return firstError(
			when(len(p[passage]) != len(t.Transfers), api.ErrShape),
			checkEach(p[passage], atMost(api.MaxJoinPrice)))
	})
	return e
}

// checkProof returns the error of rows that are no prices.
func (t checkedTask) checkProof(p api.JoinPrices) api.Errno {
	_, e := checkItems(t.passages, func(passage int) api.Errno {
		return checkEach(t.covering(passage), func(transfer int) api.Errno {
			return when(p[passage][transfer] > t.maxPrice(p, passage, transfer), api.ErrProof)
		})
	})
	return e
}

// maxPrice returns the greatest number that the price of a transfer may be, given those of the passage before.
func (t checkedTask) maxPrice(p api.JoinPrices, passage, transfer int) int {
	most := t.deviation(transfer, passage)
	if passage > 0 {
		cost := func(before int) int { return p[passage-1][before] + t.change(before, transfer) }
		most += cost(t.cheapest(passage-1, cost))
	}
	return most
}
