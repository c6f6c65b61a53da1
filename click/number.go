package click

// size returns the absolute value of a number, which is not the least one.
func size(n int) int {
	return max(n, -n)
}

// down returns a quotient, rounded down. The divisor is above 0.
func down(num, den int) int {
	quotient := num / den
	if num%den < 0 {
		return quotient - 1
	}
	return quotient
}

// nearest returns a quotient, rounded to the nearest number, halves upwards. The divisor is above 0.
func nearest(num, den int) int {
	return down(2*num+den, 2*den)
}

// commonDivisor returns the greatest divisor that a number above 0 has in common with all others.
func commonDivisor(n int, others []int) int {
	divisor := n
	for _, other := range others {
		rest := size(other)
		for rest != 0 {
			divisor, rest = rest, divisor%rest
		}
	}
	return divisor
}
