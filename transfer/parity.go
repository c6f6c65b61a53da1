package transfer

import (
	"iter"
	"slices"

	"lacquer/api"
)

// primeBits is how many bits the prime less 2 has, all of which are ones.
const primeBits = 16

// lostSample is the sample whose number is 0, so that a block of it adds nothing to parities.
const lostSample = -api.TransferOffset

// equation says what numbers of lost blocks, each times its weight, add up to at each index.
type equation struct {
	weights [api.MaxTransferParity]int
	sums    [8]int
}

// InverseOf returns the inverse of a number modulo the prime (P1.5).
func InverseOf(n int) (int, api.Errno) {
	if e := firstError(checkNumber(n), when(n == 0, api.ErrZero)); e != api.OK {
		return 0, e
	}
	return inverseOf(n), api.OK
}

// ParityOf returns the first parities of data (P1.5).
func ParityOf(data [][8]int, count int) ([][8]int, api.Errno) {
	e := firstError(
		when(len(data) == 0, api.ErrShape),
		when(len(data) > api.MaxTransferData, api.ErrLarge),
		checkEach(data, checkSamples),
		checkRange(count, 1, api.MaxTransferParity))
	if e != api.OK {
		return nil, e
	}
	parities := make([][8]int, count)
	for j := range parities {
		parities[j] = parityOf(data, j)
	}
	return parities, api.OK
}

// CheckGroup returns the error of a group (P1.5).
func CheckGroup(g api.TransferGroup) api.Errno {
	e := firstError(
		when(len(g.Data) == 0 || len(g.Parity) == 0, api.ErrShape),
		when(len(g.Data) > api.MaxTransferData || len(g.Parity) > api.MaxTransferParity, api.ErrLarge),
		checkEach(g.LostData, ascendingBelow(len(g.Data))),
		checkEach(g.LostParity, ascendingBelow(len(g.Parity))))
	if e != api.OK {
		return e
	}
	return firstError(
		checkEach(keptOf(len(g.Data), g.LostData), func(i int) api.Errno { return checkSamples(g.Data[i]) }),
		checkEach(keptOf(len(g.Parity), g.LostParity), func(j int) api.Errno { return checkNumbers(g.Parity[j]) }))
}

// Restored returns all data blocks of a group (P1.5).
func Restored(g api.TransferGroup) ([][8]int, api.Errno) {
	if e := CheckGroup(g); e != api.OK {
		return nil, e
	}
	kept := keptOf(len(g.Parity), g.LostParity)
	if len(g.LostData) > len(kept) {
		return nil, api.ErrLost
	}
	data := slices.Clone(g.Data)
	for _, i := range g.LostData {
		for k := range data[i] {
			data[i][k] = lostSample
		}
	}
	equations := equationsOf(g, data, kept)
	solve(equations)
	for n, i := range g.LostData {
		for k, number := range equations[n].sums {
			data[i][k] = number - api.TransferOffset
		}
	}
	if !explains(data, g.Parity, kept) {
		return nil, api.ErrClash
	}
	return data, api.OK
}

func checkNumber(n int) api.Errno {
	return checkRange(n, 0, api.TransferPrime-1)
}

func checkNumbers(x [8]int) api.Errno {
	return checkEach(x[:], checkNumber)
}

// ascendingBelow returns the check of indexes of blocks, which has to be called with them one after another.
func ascendingBelow(count int) func(int) api.Errno {
	last := -1
	return func(i int) api.Errno {
		e := firstError(
			when(i < 0 || i >= count, api.ErrMissing),
			when(i <= last, api.ErrOrder))
		last = i
		return e
	}
}

// keptOf returns the indexes below count that are not lost.
func keptOf(count int, lost []int) []int {
	var kept []int
	for i := range count {
		if !slices.Contains(lost, i) {
			kept = append(kept, i)
		}
	}
	return kept
}

// modPrime returns the number modulo the prime of a number of either sign.
func modPrime(n int) int {
	return (n%api.TransferPrime + api.TransferPrime) % api.TransferPrime
}

// inverseOf returns n to the power of the prime less 2, which is n's inverse by Fermat's little theorem.
func inverseOf(n int) int {
	power := 1
	for range primeBits {
		power = modPrime(modPrime(power*power) * n)
	}
	return power
}

// weightOf returns the weight of the data block i in the parity j; what is inverted is from 1 to 15.
func weightOf(i, j int) int {
	return inverseOf(api.MaxTransferParity + i - j)
}

// weighted yields the weight of each data block in the parity j, and the numbers of the block.
func weighted(data [][8]int, j int) iter.Seq2[int, [8]int] {
	return func(yield func(int, [8]int) bool) {
		for i, numbers := range data {
			for k := range numbers {
				numbers[k] += api.TransferOffset
			}
			if !yield(weightOf(i, j), numbers) {
				return
			}
		}
	}
}

func parityOf(data [][8]int, j int) [8]int {
	var parity [8]int
	for weight, numbers := range weighted(data, j) {
		for k, number := range numbers {
			parity[k] = modPrime(parity[k] + weight*number)
		}
	}
	return parity
}

// equationsOf returns as many equations as there are lost data blocks, from the first parities that are kept. The lost blocks of data add nothing.
func equationsOf(g api.TransferGroup, data [][8]int, kept []int) []equation {
	equations := make([]equation, len(g.LostData))
	for r := range equations {
		j := kept[r]
		for n, i := range g.LostData {
			equations[r].weights[n] = weightOf(i, j)
		}
		for k, known := range parityOf(data, j) {
			equations[r].sums[k] = modPrime(g.Parity[j][k] - known)
		}
	}
	return equations
}

// solve leaves in the sums of each equation the numbers of one lost block.
// Inverses of differences, as the weights are, form a Cauchy matrix: none of its square parts is singular, so no weight that is inverted here is 0.
func solve(l []equation) {
	for c := range l {
		l[c] = l[c].times(inverseOf(l[c].weights[c]))
		for r := range l {
			if r != c {
				l[r] = l[r].minus(l[c].times(l[r].weights[c]))
			}
		}
	}
}

func (e equation) times(factor int) equation {
	for n := range e.weights {
		e.weights[n] = modPrime(e.weights[n] * factor)
	}
	for k := range e.sums {
		e.sums[k] = modPrime(e.sums[k] * factor)
	}
	return e
}

func (e equation) minus(o equation) equation {
	for n := range e.weights {
		e.weights[n] = modPrime(e.weights[n] - o.weights[n])
	}
	for k := range e.sums {
		e.sums[k] = modPrime(e.sums[k] - o.sums[k])
	}
	return e
}

// explains tells whether data are samples, and the kept parity blocks their parities.
func explains(data, parity [][8]int, kept []int) bool {
	if checkEach(data, checkSamples) != api.OK {
		return false
	}
	for _, j := range kept {
		if parityOf(data, j) != parity[j] {
			return false
		}
	}
	return true
}
