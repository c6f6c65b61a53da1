package click

import (
	"slices"

	"lacquer/api"
)

// constant is where a row has the number that its sum is to be.
const constant = api.MaxClickRun

// row is an equation: the coefficients of the values of a mark, and the number that their sum is to be.
type row [constant + 1]int

// equationsOf returns for each sample of a mark the equation by which its slope is 0.
func equationsOf(x []int, mark api.Range) []row {
	rows := make([]row, lengthOf(mark))
	for k := range rows {
		unit := make([]int, len(x))
		unit[mark.Lo+k] = 1
		for i := range rows {
			rows[i][k] = slope(unit, mark.Lo+i)
		}
	}
	unmarked := slices.Clone(x)
	clear(unmarked[mark.Lo : mark.Hi+1])
	for i := range rows {
		rows[i][constant] = -slope(unmarked, mark.Lo+i)
	}
	return rows
}

// solutionOf returns the numerators of the values that satisfy all equations, and their denominator.
// All numbers on the way are determinants, and so they stay small and whole. No pivot is 0, since the energy is greater with all other values.
func solutionOf(equations []row) ([]int, int) {
	rows := slices.Clone(equations)
	den := 1
	for k := range rows {
		pivot := rows[k]
		for i := range rows {
			if i != k {
				rows[i] = rows[i].without(k, pivot, den)
			}
		}
		den = pivot[k]
	}
	var nums []int
	for _, r := range rows {
		nums = append(nums, r[constant])
	}
	return nums, den
}

// without returns a row in which the value k does not occur. The pivot before divides all its numbers.
func (r row) without(k int, pivot row, before int) row {
	var rest row
	for column := range rest {
		rest[column] = (r[column]*pivot[k] - r[k]*pivot[column]) / before
	}
	return rest
}
