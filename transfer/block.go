package transfer

import "lacquer/api"

// The factors of a counter and a channel in a checksum; those of the samples are 1 to 8.
const (
	counterFactor = 9
	channelFactor = 10
)

// place is what the blocks that repeat or contradict one another have in common.
type place struct{ channel, counter int }

// SumOf returns the checksum of a block (P1.2).
func SumOf(b api.TransferBlock) (int, api.Errno) {
	if e := checkContents(b); e != api.OK {
		return 0, e
	}
	return sumOf(b), api.OK
}

// CheckBlock returns the error of a block (P1.2).
func CheckBlock(b api.TransferBlock) api.Errno {
	return firstError(checkContents(b), when(isTorn(b), api.ErrSum))
}

// KindsOf returns the kind of each block (P1.2).
func KindsOf(l []api.TransferBlock) ([]int, api.Errno) {
	if e := checkBlocks(l); e != api.OK {
		return nil, e
	}
	return kindsOf(l), api.OK
}

// checkContents returns the error of a block but for its checksum.
func checkContents(b api.TransferBlock) api.Errno {
	return firstError(checkCounter(b.Counter), checkChannel(b.Channel), checkSamples(b.Samples))
}

func checkBlocks(l []api.TransferBlock) api.Errno {
	return firstError(
		when(len(l) > api.MaxTransferBlocks, api.ErrLarge),
		checkEach(l, checkContents))
}

func sumOf(b api.TransferBlock) int {
	sum := counterFactor*b.Counter + channelFactor*b.Channel
	for i, sample := range b.Samples {
		sum += (i + 1) * (sample + api.TransferOffset)
	}
	return sum % api.TransferPrime
}

func isTorn(b api.TransferBlock) bool {
	return b.Sum != sumOf(b)
}

func kindsOf(l []api.TransferBlock) []int {
	kinds := make([]int, len(l))
	seen := map[place]api.TransferBlock{}
	for i, b := range l {
		at := place{b.Channel, b.Counter}
		earlier, known := seen[at]
		switch {
		case isTorn(b):
			kinds[i] = api.TransferTorn
		case !known:
			kinds[i] = api.TransferNew
			seen[at] = b
		case b == earlier:
			kinds[i] = api.TransferRepeated
		default:
			kinds[i] = api.TransferClash
		}
	}
	return kinds
}
