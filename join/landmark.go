package join

import (
	"iter"

	"lacquer/api"
)

// CheckLandmarks returns the error of landmarks, and the index of the landmark that has it (P7.2).
func CheckLandmarks(l []api.JoinLandmark) (int, api.Errno) {
	if len(l) > api.MaxJoinLandmarks {
		return 0, api.ErrLarge
	}
	return checkItems(len(l), func(i int) api.Errno {
		return checkEach([]int{l[i].A, l[i].B, l[i].Doubt}, from(0, api.MaxPosition))
	})
}

// LagsOf returns the lags that agree with all landmarks (P7.2).
func LagsOf(l []api.JoinLandmark) (api.Range, api.Errno) {
	if e := checkSomeLandmarks(l); e != api.OK {
		return api.Range{}, e
	}
	lags := lagsOf(l[0])
	for _, landmark := range l[1:] {
		lags = common(lags, lagsOf(landmark))
	}
	if isEmpty(lags) {
		return api.Range{}, api.ErrClash
	}
	return lags, api.OK
}

// Contradicting returns the minimum set of landmarks with all of which no lag agrees (P7.2).
// It is a pair: ranges of which any two have a number in common have one that all share.
func Contradicting(l []api.JoinLandmark) ([]int, api.Errno) {
	if e := checkLandmarks(l); e != api.OK {
		return nil, e
	}
	for i, j := range pairsBelow(len(l)) {
		if isEmpty(common(lagsOf(l[i]), lagsOf(l[j]))) {
			return []int{i, j}, api.OK
		}
	}
	return nil, api.ErrNone
}

// MostAgreed returns the minimum lag that agrees with the maximum number of landmarks, and this number (P7.2).
func MostAgreed(l []api.JoinLandmark) (int, int, api.Errno) {
	if e := checkSomeLandmarks(l); e != api.OK {
		return 0, 0, e
	}
	best, most := 0, 0
	for _, landmark := range l {
		// The minimum lag that agrees with some landmarks is where the lags of one of them begin.
		lag := lagsOf(landmark).Lo
		count := agreeing(l, lag)
		if count > most || count == most && lag < best {
			best, most = lag, count
		}
	}
	return best, most, api.OK
}

// checkLandmarks returns the error of landmarks without its index.
func checkLandmarks(l []api.JoinLandmark) api.Errno {
	_, e := CheckLandmarks(l)
	return e
}

// checkSomeLandmarks returns the error of landmarks of which there is to be at least one.
func checkSomeLandmarks(l []api.JoinLandmark) api.Errno {
	return firstError(checkLandmarks(l), when(len(l) == 0, api.ErrShape))
}

// lagsOf returns the lags that agree with a landmark.
func lagsOf(x api.JoinLandmark) api.Range {
	return api.Range{Lo: x.B - x.Doubt - x.A, Hi: x.B + x.Doubt - x.A}
}

// agreeing returns the number of landmarks with which a lag agrees.
func agreeing(l []api.JoinLandmark, lag int) int {
	count := 0
	for _, landmark := range l {
		if lags := lagsOf(landmark); lags.Lo <= lag && lag <= lags.Hi {
			count++
		}
	}
	return count
}

// common returns the numbers that two ranges share.
func common(a, b api.Range) api.Range {
	return api.Range{Lo: max(a.Lo, b.Lo), Hi: min(a.Hi, b.Hi)}
}

func isEmpty(r api.Range) bool {
	return r.Lo > r.Hi
}

// pairsBelow yields the pairs of different numbers from 0 to count - 1, the smaller one first, in lexicographic order.
func pairsBelow(count int) iter.Seq2[int, int] {
	return func(yield func(int, int) bool) {
		for i := range count {
			for j := i + 1; j < count; j++ {
				if !yield(i, j) {
					return
				}
			}
		}
	}
}
