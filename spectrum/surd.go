package spectrum

import (
	"cmp"
	"math/bits"
	"sort"

	"lacquer/api"
)

// surd is the real number plain plus root times the root of 2.
type surd struct{ plain, root int }

func (v surd) plus(w surd) surd {
	return surd{plain: v.plain + w.plain, root: v.root + w.root}
}

func (v surd) times(n int) surd {
	return surd{plain: n * v.plain, root: n * v.root}
}

// compare returns -1, 0 or 1 for a number that is less than, equal to, or greater than another one.
func (v surd) compare(w surd) int {
	return v.plus(w.times(-1)).sign()
}

// sign returns -1, 0 or 1 for a number that is below, equal to, or above 0.
func (v surd) sign() int {
	// The part of greater size decides. As the root of 2 is irrational, both have the same size only in 0.
	if exceeds(size(v.plain), size(v.root)) {
		return cmp.Compare(v.plain, 0)
	}
	return cmp.Compare(v.root, 0)
}

// exceeds tells whether a number is greater than another one times the root of 2. Their squares need two words each.
func exceeds(a, b uint) bool {
	squareHi, squareLo := bits.Mul64(uint64(a), uint64(a))
	doubleHi, doubleLo := bits.Mul64(uint64(b), 2*uint64(b))
	return cmp.Or(cmp.Compare(squareHi, doubleHi), cmp.Compare(squareLo, doubleLo)) > 0
}

// size returns the absolute value of a number.
func size(n int) uint {
	return uint(max(n, -n))
}

// rounded returns a number divided by den, rounded to the nearest whole number, halves upwards.
// Instead of any result that is greater in size than MaxSample it returns the one that exceeds it by 1.
func (v surd) rounded(den int) int {
	const beyond = api.MaxSample + 1
	double := v.times(2).plus(surd{plain: den})
	count := sort.Search(2*beyond, func(i int) bool {
		n := i + 1 - beyond
		return double.plus(surd{plain: -2 * n * den}).sign() < 0
	})
	return count - beyond
}
