package resample

import "lacquer/api"

// interpolation is how values between samples are computed.
type interpolation struct {
	degree       int
	before       int // how many of the weighted samples come before the one at or before the position
	den          int // of the weights
	weights      func(fraction int) []int
	remainderDen int
	remainder    func(fraction int) int
}

// interpolationOf returns the interpolation of a degree.
func interpolationOf(degree int) (interpolation, api.Errno) {
	table := [2]interpolation{
		{
			degree:       1,
			before:       0,
			den:          64,
			weights:      func(f int) []int { return []int{64 - f, f} },
			remainderDen: 8192,
			remainder:    func(f int) int { return f * (f - 64) },
		},
		{
			degree: 3,
			before: 1,
			den:    1572864,
			weights: func(f int) []int {
				return []int{
					-f * (f - 64) * (f - 128),
					3 * (f + 64) * (f - 64) * (f - 128),
					-3 * (f + 64) * f * (f - 128),
					(f + 64) * f * (f - 64),
				}
			},
			remainderDen: 402653184,
			remainder:    func(f int) int { return (f + 64) * f * (f - 64) * (f - 128) },
		},
	}
	for _, p := range table {
		if p.degree == degree {
			return p, api.OK
		}
	}
	return interpolation{}, api.ErrKind
}

// numeratorAt returns the numerator of the value of a signal at a position that it has.
func (p interpolation) numeratorAt(x []int, position int) int {
	first := position/api.Grid - p.before
	sum := 0
	for i, weight := range p.weights(position % api.Grid) {
		sum += weight * x[max(0, min(first+i, len(x)-1))]
	}
	return sum
}

// outputAt returns the sample that stands for the value at a position.
func (p interpolation) outputAt(x []int, position int) int {
	n := nearest(p.numeratorAt(x, position), p.den)
	return max(-api.MaxSample, min(n, api.MaxSample))
}

// WeightsAt returns the weights of a fraction, and their denominator (P4.2).
func WeightsAt(degree, fraction int) ([]int, int, api.Errno) {
	p, e := interpolationOf(degree)
	if e := firstError(e, checkFraction(fraction)); e != api.OK {
		return nil, 0, e
	}
	return p.weights(fraction), p.den, api.OK
}

// ValueAt returns the value of a signal at a position as a numerator and a denominator (P4.2).
func ValueAt(degree int, x []int, position int) (int, int, api.Errno) {
	p, e := interpolationOf(degree)
	e = firstError(
		e,
		checkSignal(x),
		from(0, lastPosition(len(x)))(position))
	if e != api.OK {
		return 0, 0, e
	}
	return p.numeratorAt(x, position), p.den, api.OK
}

// RemainderAt returns the remainder of a degree at a fraction (P4.3).
func RemainderAt(degree, fraction int) (api.Frac, api.Errno) {
	p, e := interpolationOf(degree)
	if e := firstError(e, checkFraction(fraction)); e != api.OK {
		return api.Frac{}, e
	}
	return fractionOf(p.remainder(fraction), p.remainderDen), api.OK
}

// MaximumRemainder returns the maximum size of the remainders of a degree (P4.3).
func MaximumRemainder(degree int) (api.Frac, api.Errno) {
	p, e := interpolationOf(degree)
	if e != api.OK {
		return api.Frac{}, e
	}
	most := 0
	for fraction := range api.Grid {
		most = max(most, size(p.remainder(fraction)))
	}
	return fractionOf(most, p.remainderDen), api.OK
}

// Differences returns the differences of an order (P4.3).
func Differences(x []int, order int) ([]int, api.Errno) {
	e := firstError(checkSignal(x), from(1, api.MaxResampleOrder)(order))
	if e != api.OK {
		return nil, e
	}
	l := x
	for range order {
		l = stepsOf(l)
	}
	return l, api.OK
}

// stepsOf returns each number but the first one minus the one before, in new memory.
func stepsOf(l []int) []int {
	var steps []int
	for i := 1; i < len(l); i++ {
		steps = append(steps, l[i]-l[i-1])
	}
	return steps
}
