package click

import "lacquer/api"

// EnergyOf returns the energy of a signal (P5.2).
func EnergyOf(x []int) (int, api.Errno) {
	if e := checkSignal(x); e != api.OK {
		return 0, e
	}
	energy := 0
	for i := range x {
		d := secondDifference(x, i)
		energy += d * d
	}
	return energy, api.OK
}

// secondDifference returns the second difference of a signal: 0 where it is not defined.
func secondDifference(x []int, i int) int {
	if i <= 0 || i >= len(x)-1 {
		return 0
	}
	return x[i-1] - 2*x[i] + x[i+1]
}

// slope returns half of how fast the energy changes with a sample. It is 0 for mended values.
func slope(x []int, i int) int {
	return secondDifference(x, i-1) - 2*secondDifference(x, i) + secondDifference(x, i+1)
}
