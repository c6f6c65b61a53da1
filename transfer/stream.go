package transfer

import (
	"cmp"
	"iter"
	"slices"

	"lacquer/api"
)

// StreamOf returns the stream of a channel (P1.3).
func StreamOf(l []api.TransferBlock, channel int) (api.TransferStream, api.Errno) {
	found, e := newBlocks(l, channel)
	if e != api.OK {
		return api.TransferStream{}, e
	}
	start, end := found[0].Counter, found[len(found)-1].Counter+1
	stream := api.TransferStream{First: start, Samples: make([]int, (end-start)*api.TransferLength)}
	for _, b := range found {
		copy(stream.Samples[(b.Counter-start)*api.TransferLength:], b.Samples[:])
	}
	for missing := range missingBetween(found) {
		stream.Gaps = append(stream.Gaps, api.Range{
			Lo: (missing.Lo - start) * api.TransferLength,
			Hi: (missing.Hi-start+1)*api.TransferLength - 1,
		})
	}
	return stream, api.OK
}

// MissingOf returns the counters that a channel lacks (P1.3).
func MissingOf(l []api.TransferBlock, channel int) ([]int, api.Errno) {
	found, e := newBlocks(l, channel)
	if e != api.OK {
		return nil, e
	}
	var counters []int
	for missing := range missingBetween(found) {
		for counter := missing.Lo; counter <= missing.Hi; counter++ {
			counters = append(counters, counter)
		}
	}
	return counters, api.OK
}

// BlocksOf returns the blocks of a signal (P1.3).
func BlocksOf(x []int, s api.TransferStart) ([]api.TransferBlock, api.Errno) {
	count := (len(x) + api.TransferLength - 1) / api.TransferLength
	e := firstError(
		when(count > api.MaxTransferBlocks, api.ErrLarge),
		checkSignal(x),
		checkChannel(s.Channel),
		checkCounter(s.Counter),
		checkCounter(s.Counter+max(count, 1)-1))
	if e != api.OK {
		return nil, e
	}
	var blocks []api.TransferBlock
	for part := range slices.Chunk(x, api.TransferLength) {
		b := api.TransferBlock{Counter: s.Counter + len(blocks), Channel: s.Channel}
		copy(b.Samples[:], part)
		b.Sum = sumOf(b)
		blocks = append(blocks, b)
	}
	return blocks, api.OK
}

// newBlocks returns the TransferNew blocks of a channel, of which there is at least one, in the order of their counters.
func newBlocks(l []api.TransferBlock, channel int) ([]api.TransferBlock, api.Errno) {
	if e := firstError(checkBlocks(l), checkChannel(channel)); e != api.OK {
		return nil, e
	}
	var found []api.TransferBlock
	for i, kind := range kindsOf(l) {
		if kind == api.TransferNew && l[i].Channel == channel {
			found = append(found, l[i])
		}
	}
	if len(found) == 0 {
		return nil, api.ErrNone
	}
	slices.SortFunc(found, func(a, b api.TransferBlock) int { return cmp.Compare(a.Counter, b.Counter) })
	if found[len(found)-1].Counter-found[0].Counter+1 > api.MaxTransferSpan {
		return nil, api.ErrLarge
	}
	return found, api.OK
}

// missingBetween yields the ranges of the counters that lie between blocks and have none.
func missingBetween(found []api.TransferBlock) iter.Seq[api.Range] {
	return func(yield func(api.Range) bool) {
		for i := 1; i < len(found); i++ {
			missing := api.Range{Lo: found[i-1].Counter + 1, Hi: found[i].Counter - 1}
			if missing.Lo <= missing.Hi && !yield(missing) {
				return
			}
		}
	}
}
