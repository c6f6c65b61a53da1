package transfer_test

import (
	"math"
	"slices"
	"testing"

	"lacquer/api"
	"lacquer/transfer"
)

// extremes are numbers that no part of a valid argument may have.
var extremes = []int{math.MinInt, math.MinInt + 1, math.MaxInt - 1, math.MaxInt}

// prime is the modulus of the document, written out so that the tests do not repeat the program's constants.
const prime = 65537

// checksum is the document's definition, written out.
func checksum(b api.TransferBlock) int {
	s := b.Samples
	return (1*(s[0]+32768) + 2*(s[1]+32768) + 3*(s[2]+32768) + 4*(s[3]+32768) +
		5*(s[4]+32768) + 6*(s[5]+32768) + 7*(s[6]+32768) + 8*(s[7]+32768) +
		9*b.Counter + 10*b.Channel) % prime
}

// block returns a valid block with one sample everywhere.
func block(channel, counter, value int) api.TransferBlock {
	b := api.TransferBlock{Counter: counter, Channel: channel}
	for i := range b.Samples {
		b.Samples[i] = value
	}
	b.Sum = checksum(b)
	return b
}

// torn returns the block with a wrong checksum.
func torn(b api.TransferBlock) api.TransferBlock {
	b.Sum = (b.Sum + 1) % prime
	return b
}

// numbers returns count numbers from lo to hi that follow a rule, which differs with the seed.
func numbers(seed, count, lo, hi int) []int {
	l := make([]int, count)
	state := uint32(seed)*2654435761 + 12345
	for i := range l {
		state = state*1664525 + 1013904223
		l[i] = lo + int(state>>8)%(hi-lo+1)
	}
	return l
}

// eight returns eight numbers from lo to hi.
func eight(seed, lo, hi int) [8]int {
	return [8]int(numbers(seed, 8, lo, hi))
}

func wantError(t *testing.T, what any, got, want api.Errno) {
	t.Helper()
	if got != want {
		t.Errorf("%#v: error %d, want %d", what, got, want)
	}
}

func wantList[T comparable](t *testing.T, what any, got, want []T) {
	t.Helper()
	if !slices.Equal(got, want) {
		t.Errorf("%#v: %v, want %v", what, got, want)
	}
}

func isZeroStream(s api.TransferStream) bool {
	return s.First == 0 && len(s.Samples) == 0 && len(s.Gaps) == 0
}

// blocksOf returns the blocks of a valid signal.
func blocksOf(t *testing.T, x []int, channel, counter int) []api.TransferBlock {
	t.Helper()
	l, e := transfer.BlocksOf(x, api.TransferStart{Channel: channel, Counter: counter})
	if e != api.OK {
		t.Fatalf("BlocksOf: error %d", e)
	}
	return l
}

// paritiesOf returns the parities of valid data.
func paritiesOf(t *testing.T, data [][8]int, count int) [][8]int {
	t.Helper()
	p, e := transfer.ParityOf(data, count)
	if e != api.OK {
		t.Fatalf("ParityOf: error %d", e)
	}
	return p
}
