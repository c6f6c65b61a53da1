package groove

import (
	"slices"

	"lacquer/api"
)

// Prices returns prices that prove the cost of the best path (P2.4): each one is as great as it may be.
func Prices(t api.GrooveTask) (api.GroovePrices, api.Errno) {
	task, e := checked(t)
	if e != api.OK {
		return nil, e
	}
	prices := make(api.GroovePrices, len(task.Strip))
	for row := range prices {
		prices[row] = make([]int, task.columns)
		for column := range prices[row] {
			prices[row][column] = task.maxPrice(prices, row, column)
		}
	}
	return prices, api.OK
}

// CheckPrices accepts prices, and returns their bound (P2.4).
func CheckPrices(t api.GrooveTask, p api.GroovePrices) (int, api.Errno) {
	task, e := checked(t)
	switch {
	case e != api.OK:
		return 0, e
	case len(p) != len(task.Strip):
		return 0, api.ErrShape
	}
	if e := checkRows(p, task.columns, -api.MaxGroovePrice, api.MaxGroovePrice); e != api.OK {
		return 0, e
	}
	for row := range p {
		for column, price := range p[row] {
			if price > task.maxPrice(p, row, column) {
				return 0, api.ErrProof
			}
		}
	}
	return slices.Min(p[len(p)-1]), api.OK
}

// maxPrice returns the greatest number that a price may be, given those of the row before.
func (t checkedTask) maxPrice(p api.GroovePrices, row, column int) int {
	value := t.Strip[row][column]
	if row == 0 {
		return value
	}
	_, before := t.cheapest(p[row-1], column)
	return value + before
}
