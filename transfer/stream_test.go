package transfer_test

import (
	"slices"
	"testing"

	"lacquer/api"
	"lacquer/transfer"
)

func start(channel, counter int) api.TransferStart {
	return api.TransferStart{Channel: channel, Counter: counter}
}

func wantStream(t *testing.T, what any, l []api.TransferBlock, channel int, want api.TransferStream, missing []int) {
	t.Helper()
	s, e := transfer.StreamOf(l, channel)
	if e != api.OK || s.First != want.First || !slices.Equal(s.Samples, want.Samples) || !slices.Equal(s.Gaps, want.Gaps) {
		t.Errorf("%#v: %v, error %d, want %v", what, s, e, want)
	}
	m, e := transfer.MissingOf(l, channel)
	wantError(t, what, e, api.OK)
	wantList(t, what, m, missing)
}

func wantStreamError(t *testing.T, what any, l []api.TransferBlock, channel int, want api.Errno) {
	t.Helper()
	s, e := transfer.StreamOf(l, channel)
	wantError(t, what, e, want)
	if !isZeroStream(s) {
		t.Error(what, s)
	}
	m, e := transfer.MissingOf(l, channel)
	wantError(t, what, e, want)
	wantList(t, what, m, nil)
}

// eights returns the numbers, each of them eight times.
func eights(l ...int) []int {
	var x []int
	for _, n := range l {
		x = append(x, slices.Repeat([]int{n}, 8)...)
	}
	return x
}

// P1.3, example 3
func TestStreams(t *testing.T) {
	l := []api.TransferBlock{block(0, 5, 1), block(0, 7, 2), block(0, 5, 1), block(0, 5, 3)}
	wantStream(t, "example 3", l, 0, api.TransferStream{First: 5, Samples: eights(1, 0, 2), Gaps: []api.Range{{Lo: 8, Hi: 15}}}, []int{6})

	one := []api.TransferBlock{block(2, 9, 4)}
	wantStream(t, "one", one, 2, api.TransferStream{First: 9, Samples: eights(4)}, nil)

	mixed := []api.TransferBlock{
		block(1, 20, 8), torn(block(1, 18, 9)), block(1, 14, 6), block(0, 16, 5), torn(block(1, 2, 1)), block(1, 17, 7), block(1, 15, 0), torn(block(1, 40, 1)),
	}
	wantStream(t, "several gaps", mixed, 1, api.TransferStream{First: 14, Samples: eights(6, 0, 0, 7, 0, 0, 8),
		Gaps: []api.Range{{Lo: 16, Hi: 23}, {Lo: 32, Hi: 47}}}, []int{16, 18, 19})
	wantStream(t, "another channel", mixed, 0, api.TransferStream{First: 16, Samples: eights(5)}, nil)

	ends := []api.TransferBlock{block(3, 65535, -5), block(3, 65533, 32767)}
	wantStream(t, "last counters", ends, 3, api.TransferStream{First: 65533, Samples: eights(32767, 0, -5), Gaps: []api.Range{{Lo: 8, Hi: 15}}}, []int{65534})
}

// P1.3: the samples of a block keep their order.
func TestStreamOrder(t *testing.T) {
	b, c := block(0, 3, 0), block(0, 4, 0)
	b.Samples, c.Samples = [8]int{1, 2, 3, 4, 5, 6, 7, 8}, [8]int{9, 10, 11, 12, 13, 14, 15, 16}
	b.Sum, c.Sum = checksum(b), checksum(c)
	want := []int{1, 2, 3, 4, 5, 6, 7, 8, 9, 10, 11, 12, 13, 14, 15, 16}
	wantStream(t, "order", []api.TransferBlock{c, b}, 0, api.TransferStream{First: 3, Samples: want}, nil)
}

// P1.3
func TestStreamSpan(t *testing.T) {
	samples := make([]int, 480)
	copy(samples, eights(1))
	copy(samples[472:], eights(2))
	var missing []int
	for c := 101; c < 159; c++ {
		missing = append(missing, c)
	}
	l := []api.TransferBlock{block(0, 159, 2), block(0, 100, 1)}
	wantStream(t, "60 counters", l, 0, api.TransferStream{First: 100, Samples: samples, Gaps: []api.Range{{Lo: 8, Hi: 471}}}, missing)
	wantStreamError(t, "61 counters", []api.TransferBlock{block(0, 160, 2), block(0, 100, 1)}, 0, api.ErrLarge)
	wantStreamError(t, "all counters", []api.TransferBlock{block(0, 0, 2), block(0, 65535, 1)}, 0, api.ErrLarge)
	wantStream(t, "torn blocks do not count", []api.TransferBlock{block(0, 0, 2), torn(block(0, 65535, 1)), block(1, 65535, 1)}, 0,
		api.TransferStream{Samples: eights(2)}, nil)
}

// P1.3
func TestStreamErrors(t *testing.T) {
	good := []api.TransferBlock{block(0, 5, 1)}
	for _, b := range outOfRange() {
		wantStreamError(t, b, []api.TransferBlock{b}, 0, api.ErrRange)
	}
	for _, channel := range append([]int{-1, 4}, extremes...) {
		wantStreamError(t, channel, good, channel, api.ErrRange)
		wantStreamError(t, channel, nil, channel, api.ErrRange)
		wantStreamError(t, channel, slices.Repeat(good, 41), channel, api.ErrLarge)
	}
	wantStreamError(t, "no blocks", nil, 0, api.ErrNone)
	wantStreamError(t, "another channel", good, 1, api.ErrNone)
	wantStreamError(t, "only torn blocks", []api.TransferBlock{torn(block(0, 5, 1))}, 0, api.ErrNone)
	wantStreamError(t, "41 blocks", slices.Repeat(good, 41), 0, api.ErrLarge)
	wantStream(t, "40 blocks", slices.Repeat(good, 40), 0, api.TransferStream{First: 5, Samples: eights(1)}, nil)
}

// P1.3
func TestBlocksOf(t *testing.T) {
	for _, count := range []int{0, 1, 7, 8, 9, 15, 16, 17, 319, 320} {
		x := numbers(count, count, -32767, 32767)
		var want []api.TransferBlock
		for i, sample := range x {
			if i%8 == 0 {
				want = append(want, api.TransferBlock{Counter: 1000 + i/8, Channel: 3})
			}
			want[i/8].Samples[i%8] = sample
		}
		for i := range want {
			want[i].Sum = checksum(want[i])
		}
		l, e := transfer.BlocksOf(x, start(3, 1000))
		wantError(t, count, e, api.OK)
		wantList(t, count, l, want)
	}
}

// P1.3
func TestBlocksOfErrors(t *testing.T) {
	for _, x := range []struct {
		what  string
		x     []int
		start api.TransferStart
		want  api.Errno
	}{
		{"41 blocks", make([]int, 321), start(0, 0), api.ErrLarge},
		{"41 blocks before all else", slices.Repeat([]int{40000}, 321), start(9, -1), api.ErrLarge},
		{"a sample", []int{0, 32768}, start(0, 0), api.ErrRange},
		{"another sample", []int{-32768}, start(0, 0), api.ErrRange},
		{"a late sample", append(make([]int, 319), 32768), start(0, 0), api.ErrRange},
		{"a channel", []int{1}, start(4, 0), api.ErrRange},
		{"another channel", []int{1}, start(-1, 0), api.ErrRange},
		{"a counter", []int{1}, start(0, -1), api.ErrRange},
		{"another counter", []int{1}, start(0, 65536), api.ErrRange},
		{"the last counter", make([]int, 9), start(0, 65535), api.ErrRange},
		{"the last counter of 40", make([]int, 320), start(0, 65497), api.ErrRange},
		{"an empty signal", nil, start(0, 65536), api.ErrRange},
		{"another empty signal", nil, start(0, -1), api.ErrRange},
		{"an empty signal with a channel", nil, start(4, 0), api.ErrRange},
		{"a negative counter with many blocks", make([]int, 16), start(0, -1), api.ErrRange},
	} {
		l, e := transfer.BlocksOf(x.x, x.start)
		wantError(t, x.what, e, x.want)
		wantList(t, x.what, l, nil)
	}
	for _, n := range extremes {
		for _, s := range []api.TransferStart{start(n, 0), start(0, n)} {
			for _, x := range [][]int{nil, {1}, make([]int, 320)} {
				_, e := transfer.BlocksOf(x, s)
				wantError(t, s, e, api.ErrRange)
			}
		}
		_, e := transfer.BlocksOf([]int{n}, start(0, 0))
		wantError(t, n, e, api.ErrRange)
	}
}

// P1.3: the last counters that are permitted
func TestBlocksOfAtTheEnd(t *testing.T) {
	for _, x := range []struct{ length, counter int }{{0, 65535}, {0, 0}, {8, 65535}, {9, 65534}, {320, 65496}} {
		l, e := transfer.BlocksOf(make([]int, x.length), start(0, x.counter))
		if e != api.OK || len(l) != (x.length+7)/8 {
			t.Error(x, l, e)
		}
	}
}

// P1.8
func TestStreamOfBlocksIsTheSignal(t *testing.T) {
	for _, count := range []int{1, 8, 20, 24, 61, 150} {
		x := numbers(count, count, -32767, 32767)
		l := blocksOf(t, x, 2, 77)
		want := append(slices.Clone(x), make([]int, len(l)*8-count)...)
		for shift := range l {
			shuffled := slices.Concat(l[shift:], l[:shift])
			slices.Reverse(shuffled[len(shuffled)/2:])
			shuffled = append(shuffled, l[:min(len(l), 40-len(l))]...)
			wantStream(t, count, shuffled, 2, api.TransferStream{First: 77, Samples: want}, nil)
		}
	}
}

// P1.8
func TestLostBlockIsAGap(t *testing.T) {
	l := blocksOf(t, numbers(4, 70, 1, 32767), 1, 30)
	for i := 1; i < len(l)-1; i++ {
		var want []int
		for _, b := range l {
			if b != l[i] {
				want = append(want, b.Samples[:]...)
			} else {
				want = append(want, make([]int, 8)...)
			}
		}
		gaps := []api.Range{{Lo: 8 * i, Hi: 8*i + 7}}
		wantStream(t, i, slices.Concat(l[:i], l[i+1:]), 1, api.TransferStream{First: 30, Samples: want, Gaps: gaps}, []int{30 + i})
	}
}
