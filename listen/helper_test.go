package listen_test

import (
	"fmt"
	"math"
	"math/big"
	"math/rand/v2"
	"testing"

	"lacquer/api"
)

const maxSample = 32767

// shown returns the results of a call as a string in which a nil slice and an empty one are alike.
func shown(results ...any) string {
	return fmt.Sprintf("%+v\n", results)
}

func expect(t *testing.T, what any, got, want string) {
	t.Helper()
	if got != want {
		t.Errorf("%s: %swant %s", brief(what), got, want)
	}
}

func brief(what any) string {
	s := fmt.Sprintf("%+v", what)
	return s[:min(len(s), 500)]
}

// beyond returns numbers that are just beyond the limits lo and hi, and extreme ones.
func beyond(lo, hi int) []int {
	return []int{lo - 1, hi + 1, math.MinInt, math.MinInt + 1, math.MaxInt - 1, math.MaxInt}
}

// dice returns a source of numbers that are always the same.
func dice(seed uint64) *rand.Rand {
	return rand.New(rand.NewPCG(seed, 9))
}

// between returns a number from lo to hi.
func between(d *rand.Rand, lo, hi int) int {
	return lo + d.IntN(hi-lo+1)
}

// someSignal returns count samples of at most limit in size.
func someSignal(d *rand.Rand, count, limit int) []int {
	x := make([]int, count)
	for i := range x {
		x[i] = between(d, -limit, limit)
	}
	return x
}

// bad returns a slice of zeros with a number at an index.
func bad(count, at, n int) []int {
	x := make([]int, count)
	x[at] = n
	return x
}

func frac(num, den int) api.Frac {
	return api.Frac{Num: num, Den: den}
}

// lowest returns an exact number as a fraction.
func lowest(r *big.Rat) api.Frac {
	return frac(int(r.Num().Int64()), int(r.Denom().Int64()))
}

func whole(n int) *big.Rat {
	return new(big.Rat).SetInt64(int64(n))
}

func quotient(num, den int) *big.Rat {
	return big.NewRat(int64(num), int64(den))
}

// badSignal is a signal with its error.
type badSignal struct {
	x []int
	e api.Errno
}

func signalsWithErrors() []badSignal {
	l := []badSignal{{make([]int, 201), api.ErrLarge}, {bad(201, 0, maxSample+1), api.ErrLarge}, {make([]int, 100000), api.ErrLarge}}
	for _, n := range beyond(-maxSample, maxSample) {
		l = append(l,
			badSignal{[]int{n}, api.ErrRange},
			badSignal{[]int{0, maxSample, -maxSample, n}, api.ErrRange},
			badSignal{bad(200, 0, n), api.ErrRange},
			badSignal{bad(200, 199, n), api.ErrRange})
	}
	return l
}

// loudSignal is as long and as loud as possible.
func loudSignal() []int {
	x := make([]int, 200)
	for i := range x {
		x[i] = maxSample
	}
	return x
}
