package join

import (
	"cmp"
	"iter"
	"slices"

	"lacquer/api"
)

// CorrelationAt returns the correlation of two signals at a lag (P7.1).
func CorrelationAt(a, b []int, lag int) (int, api.Errno) {
	if e := firstError(checkSignal(a), checkSignal(b), checkLag(lag)); e != api.OK {
		return 0, e
	}
	return correlation(a, b, lag), api.OK
}

// LagOf returns the best lag of two signals within a limit (P7.1).
func LagOf(a, b []int, limit int) (api.JoinLag, api.Errno) {
	if e := firstError(checkSignal(a), checkSignal(b), from(1, api.MaxJoinLag)(limit)); e != api.OK {
		return api.JoinLag{}, e
	}
	var lags []api.JoinLag
	for n := range 2*limit + 1 {
		lag := n - limit
		lags = append(lags, api.JoinLag{Lag: lag, Correlation: correlation(a, b, lag)})
	}
	slices.SortFunc(lags, func(x, y api.JoinLag) int {
		return cmp.Or(
			cmp.Compare(y.Correlation, x.Correlation),
			cmp.Compare(size(x.Lag), size(y.Lag)),
			cmp.Compare(x.Lag, y.Lag))
	})
	best := lags[0]
	best.Margin = best.Correlation - lags[1].Correlation
	return best, api.OK
}

func correlation(a, b []int, lag int) int {
	sum := 0
	for i, sample := range shifted(b, lag, api.Range{Lo: 0, Hi: len(a) - 1}) {
		sum += a[i] * sample
	}
	return sum
}

// shifted yields the positions of a range for which a signal has the index that is greater by a lag, ascending, with its samples there.
func shifted(signal []int, lag int, r api.Range) iter.Seq2[int, int] {
	return func(yield func(position, sample int) bool) {
		for position := max(r.Lo, -lag); position <= min(r.Hi, len(signal)-1-lag); position++ {
			if !yield(position, signal[position+lag]) {
				return
			}
		}
	}
}
