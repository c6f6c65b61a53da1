package click

import "lacquer/api"

// spread is a sum of squares, and how many they are.
type spread struct{ sum, count int }

func (s spread) isLess(t spread) bool {
	return s.sum*t.count < t.sum*s.count
}

// PeriodOf returns the period with the minimum spread (P5.6).
func PeriodOf(x []int, periods api.Range) (int, api.Errno) {
	e := firstError(
		checkSignal(x),
		checkPeriod(periods.Lo),
		checkPeriod(periods.Hi),
		checkOrder(periods),
		when(len(x) <= periods.Hi, api.ErrShape))
	if e != api.OK {
		return 0, e
	}
	best := periods.Lo
	for period := periods.Lo + 1; period <= periods.Hi; period++ {
		if spreadOf(x, period).isLess(spreadOf(x, best)) {
			best = period
		}
	}
	return best, api.OK
}

func spreadOf(x []int, period int) spread {
	var s spread
	for i := period; i < len(x); i++ {
		difference := x[i] - x[i-period]
		s.sum += difference * difference
		s.count++
	}
	return s
}

// HumOf returns the hum of a signal for a period (P5.6).
func HumOf(x []int, period int) (api.ClickHum, api.Errno) {
	e := firstError(
		checkSignal(x),
		checkPeriod(period),
		when(len(x) < period, api.ErrShape))
	if e != api.OK {
		return api.ClickHum{}, e
	}
	h := api.ClickHum{Period: period}
	for k := range period {
		h.Table = append(h.Table, meanOf(x, k, period)-meanOf(x, 0, 1))
	}
	return h, api.OK
}

// meanOf returns the mean of every step-th sample from an index on, which exists, rounded down.
func meanOf(x []int, first, step int) int {
	sum, count := 0, 0
	for i := first; i < len(x); i += step {
		sum += x[i]
		count++
	}
	return down(sum, count)
}

// CheckHum returns the error of a hum (P5.6).
func CheckHum(h api.ClickHum) api.Errno {
	return firstError(
		checkPeriod(h.Period),
		from(0, h.Period-1)(h.Phase),
		when(len(h.Table) != h.Period, api.ErrShape),
		checkEach(h.Table, atMost(2*api.MaxSample)))
}

func checkPeriod(period int) api.Errno {
	return from(1, api.MaxClickPeriod)(period)
}

// Removed returns a signal without a hum (P5.6).
func Removed(h api.ClickHum, x []int) ([]int, api.Errno) {
	return changed(h, x, func(sample, hum int) int { return sample - hum })
}

// Added returns a signal with a hum in addition (P5.6).
func Added(h api.ClickHum, x []int) ([]int, api.Errno) {
	return changed(h, x, func(sample, hum int) int { return sample + hum })
}

// changed returns each sample of a signal together with the hum there.
func changed(h api.ClickHum, x []int, change func(sample, hum int) int) ([]int, api.Errno) {
	if e := firstError(CheckHum(h), checkSignal(x)); e != api.OK {
		return nil, e
	}
	var y []int
	for i, sample := range x {
		n := change(sample, h.Table[(i+h.Phase)%h.Period])
		if size(n) > api.MaxSample {
			return nil, api.ErrBreak
		}
		y = append(y, n)
	}
	return y, api.OK
}
