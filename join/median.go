package join

import (
	"cmp"
	"slices"

	"lacquer/api"
)

// CheckTransfers returns the error of transfers, and the index of the transfer that has it (P7.3).
func CheckTransfers(l []api.JoinTransfer) (int, api.Errno) {
	e := firstError(
		when(len(l) == 0, api.ErrShape),
		when(len(l) > api.MaxJoinTransfers, api.ErrLarge))
	if e != api.OK {
		return 0, e
	}
	return checkItems(len(l), func(i int) api.Errno {
		return firstError(
			when(!isName(l[i].Name), api.ErrName),
			when(indexOf(l[:i], l[i].Name) >= 0, api.ErrExists),
			checkLag(l[i].Lag),
			checkSignal(l[i].Samples))
	})
}

// Median returns the medians of transfers at the positions below a length (P7.3).
func Median(l []api.JoinTransfer, length int) ([]int, api.Errno) {
	if e := firstError(checkTransfers(l), checkLength(length)); e != api.OK {
		return nil, e
	}
	var medians []int
	for position := range length {
		samples := samplesAt(l, position)
		if len(samples) == 0 {
			return nil, api.ErrGap
		}
		medians = append(medians, middleOf(samples))
	}
	return medians, api.OK
}

// DamagedIn returns the ranges of positions below a length at which transfers differ from the median by more than a limit (P7.3).
func DamagedIn(l []api.JoinTransfer, length, limit int) ([]api.JoinDamage, api.Errno) {
	medians, e := Median(l, length)
	if e := firstError(e, from(0, 2*api.MaxSample)(limit)); e != api.OK {
		return nil, e
	}
	var damages []api.JoinDamage
	for _, t := range byName(l) {
		for position, sample := range shifted(t.Samples, t.Lag, api.Range{Lo: 0, Hi: length - 1}) {
			if size(sample-medians[position]) > limit {
				damages = withDamage(damages, t.Name, position)
			}
		}
	}
	return damages, api.OK
}

// checkTransfers returns the error of transfers without its index.
func checkTransfers(l []api.JoinTransfer) api.Errno {
	_, e := CheckTransfers(l)
	return e
}

func isName(name string) bool {
	if len(name) == 0 || len(name) > api.MaxName || !isLetter(name[0]) {
		return false
	}
	for i := range len(name) {
		if !isLetter(name[i]) && !isDigit(name[i]) && name[i] != '-' {
			return false
		}
	}
	return true
}

func isLetter(c byte) bool {
	return c >= 'a' && c <= 'z' || c >= 'A' && c <= 'Z'
}

func isDigit(c byte) bool {
	return c >= '0' && c <= '9'
}

// indexOf returns the index of the transfer with a name, or -1.
func indexOf(l []api.JoinTransfer, name string) int {
	return slices.IndexFunc(l, func(t api.JoinTransfer) bool { return t.Name == name })
}

func byName(l []api.JoinTransfer) []api.JoinTransfer {
	return slices.SortedFunc(slices.Values(l), func(a, b api.JoinTransfer) int {
		return cmp.Compare(a.Name, b.Name)
	})
}

// samplesAt returns the samples of all transfers that have a position.
func samplesAt(l []api.JoinTransfer, position int) []int {
	var samples []int
	for _, t := range l {
		for _, sample := range shifted(t.Samples, t.Lag, api.Range{Lo: position, Hi: position}) {
			samples = append(samples, sample)
		}
	}
	return samples
}

// middleOf sorts samples, of which there is at least one, and returns the middle one, or the mean of both, rounded down.
func middleOf(samples []int) int {
	slices.Sort(samples)
	last := len(samples) - 1
	// A shift rounds down below 0, too; a division does not.
	return (samples[last/2] + samples[(last+1)/2]) >> 1
}

// withDamage adds a position to damages, as a part of the last one if it follows it. No damage of the same transfer lies behind the position.
func withDamage(l []api.JoinDamage, name string, position int) []api.JoinDamage {
	last := len(l) - 1
	if last < 0 || l[last].Name != name || l[last].Positions.Hi != position-1 {
		return append(l, api.JoinDamage{Name: name, Positions: api.Range{Lo: position, Hi: position}})
	}
	l[last].Positions.Hi = position
	return l
}
