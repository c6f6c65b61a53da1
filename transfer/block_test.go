package transfer_test

import (
	"testing"

	"lacquer/api"
	"lacquer/transfer"
)

func sampleBlocks() []api.TransferBlock {
	l := []api.TransferBlock{block(0, 0, 0), block(3, 65535, 32767), block(1, 7, -32767), block(2, 1, 1)}
	for seed := range 20 {
		b := api.TransferBlock{Counter: numbers(seed, 1, 0, 65535)[0], Channel: seed % 4, Samples: eight(seed+50, -32767, 32767)}
		b.Sum = checksum(b)
		l = append(l, b)
	}
	return l
}

// P1.2, example 2
func TestSumOf(t *testing.T) {
	if n, e := transfer.SumOf(api.TransferBlock{}); e != api.OK || n != 65519 {
		t.Error(n, e)
	}
	for i := range 8 {
		b := api.TransferBlock{}
		b.Samples[i] = 1
		if n, e := transfer.SumOf(b); e != api.OK || n != (65519+i+1)%prime {
			t.Error(i, n, e)
		}
	}
	if n, e := transfer.SumOf(api.TransferBlock{Counter: 1, Channel: 2}); e != api.OK || n != 65519+29-prime {
		t.Error(n, e)
	}
	for _, b := range sampleBlocks() {
		for _, sum := range append([]int{b.Sum, 0, -1, prime}, extremes...) {
			b.Sum = sum
			if n, e := transfer.SumOf(b); e != api.OK || n != checksum(b) {
				t.Error(b, n, e)
			}
		}
	}
}

// outOfRange returns blocks of which one number is outside its range.
func outOfRange() []api.TransferBlock {
	var l []api.TransferBlock
	add := func(change func(b *api.TransferBlock, n int), bad ...int) {
		for _, n := range append(bad, extremes...) {
			b := block(1, 2, 3)
			change(&b, n)
			l = append(l, b)
		}
	}
	add(func(b *api.TransferBlock, n int) { b.Counter = n }, -1, 65536)
	add(func(b *api.TransferBlock, n int) { b.Channel = n }, -1, 4)
	for i := range 8 {
		add(func(b *api.TransferBlock, n int) { b.Samples[i] = n }, -32768, 32768)
	}
	return l
}

// P1.2
func TestNumbersOfBlocksHaveRanges(t *testing.T) {
	for _, b := range outOfRange() {
		n, e := transfer.SumOf(b)
		wantError(t, b, e, api.ErrRange)
		if n != 0 {
			t.Error(b, n)
		}
		wantError(t, b, transfer.CheckBlock(b), api.ErrRange)
		for _, l := range [][]api.TransferBlock{{b}, {block(0, 0, 0), torn(block(0, 1, 0)), b}} {
			kinds, e := transfer.KindsOf(l)
			wantError(t, b, e, api.ErrRange)
			wantList(t, b, kinds, nil)
		}
	}
}

// P1.2
func TestCheckBlock(t *testing.T) {
	for _, b := range sampleBlocks() {
		wantError(t, b, transfer.CheckBlock(b), api.OK)
		sum := b.Sum
		for _, wrong := range append([]int{sum + 1, sum - 1, sum + prime, sum - prime, -sum - 1}, extremes...) {
			b.Sum = wrong
			wantError(t, b, transfer.CheckBlock(b), api.ErrSum)
		}
	}
}

// P1.9
func TestChangedBlocksAreNotAccepted(t *testing.T) {
	changes := []int{1, -1, 2, -2, 3, 9, 10, 255, 256, -4096, 8191, 32767, -32768, 65535, 65536, -65536}
	for _, b := range sampleBlocks() {
		for _, d := range changes {
			for i := range 11 {
				changed := b
				switch i {
				case 0:
					changed.Counter += d
				case 1:
					changed.Channel += d
				case 2:
					changed.Sum += d
				default:
					changed.Samples[i-3] += d
				}
				if transfer.CheckBlock(changed) == api.OK {
					t.Error(b, changed)
				}
			}
		}
	}
}

// P1.2, example 3 and the edge cases
func TestKindsOf(t *testing.T) {
	const fresh, repeated, clash, bad = api.TransferNew, api.TransferRepeated, api.TransferClash, api.TransferTorn
	a, other := block(0, 5, 1), block(0, 5, 2)
	for _, x := range []struct {
		what string
		l    []api.TransferBlock
		want []int
	}{
		{"none", nil, nil},
		{"example 3", []api.TransferBlock{a, block(0, 7, 2), a, other}, []int{fresh, fresh, repeated, clash}},
		{"one", []api.TransferBlock{a}, []int{fresh}},
		{"torn alone", []api.TransferBlock{torn(a)}, []int{bad}},
		{"torn before", []api.TransferBlock{torn(a), a, a}, []int{bad, fresh, repeated}},
		{"torn twice", []api.TransferBlock{torn(a), torn(a)}, []int{bad, bad}},
		{"torn after", []api.TransferBlock{a, torn(a), a}, []int{fresh, bad, repeated}},
		{"torn after with other samples", []api.TransferBlock{a, torn(other), other}, []int{fresh, bad, clash}},
		{"the first one is kept", []api.TransferBlock{a, other, other, a}, []int{fresh, clash, clash, repeated}},
		{"other channel", []api.TransferBlock{a, block(1, 5, 1), block(1, 5, 1), block(0, 5, 1)}, []int{fresh, fresh, repeated, repeated}},
		{"other counter", []api.TransferBlock{a, block(0, 6, 1), block(0, 4, 1)}, []int{fresh, fresh, fresh}},
		{"far apart", []api.TransferBlock{block(3, 65535, 0), block(3, 0, 0), block(0, 65535, 0), block(3, 65535, 0)}, []int{fresh, fresh, fresh, repeated}},
		{"torn counters of others", []api.TransferBlock{{Counter: 5, Sum: 27}, {Counter: 5, Sum: 26}, {Counter: 9, Sum: 27}}, []int{fresh, bad, bad}},
	} {
		kinds, e := transfer.KindsOf(x.l)
		wantError(t, x.what, e, api.OK)
		wantList(t, x.what, kinds, x.want)
	}
}

// P1.2: two blocks with the same checksum and different samples contradict each other.
func TestBlocksWithTheSameSumMayClash(t *testing.T) {
	a, b := block(0, 5, 0), block(0, 5, 0)
	b.Samples[0], b.Samples[1] = 2, -1
	if a.Sum != checksum(b) {
		t.Fatal("the sums differ")
	}
	kinds, e := transfer.KindsOf([]api.TransferBlock{a, b, b})
	wantError(t, "same sum", e, api.OK)
	wantList(t, "same sum", kinds, []int{api.TransferNew, api.TransferClash, api.TransferClash})
}

// P1.2
func TestNumberOfBlocks(t *testing.T) {
	var l []api.TransferBlock
	for i := range 40 {
		l = append(l, block(i%4, i, i))
	}
	kinds, e := transfer.KindsOf(l)
	wantError(t, "40 blocks", e, api.OK)
	wantList(t, "40 blocks", kinds, make([]int, 40))
	l = append(l, block(0, 0, 40000))
	kinds, e = transfer.KindsOf(l)
	wantError(t, "41 blocks", e, api.ErrLarge)
	wantList(t, "41 blocks", kinds, nil)
}
