package resample

import "lacquer/api"

// size returns the absolute value of a number, which is not the least one.
func size(n int) int {
	return max(n, -n)
}

// down returns a quotient, rounded down. The divisor is above 0.
func down(num, den int) int {
	quotient := num / den
	if num%den < 0 {
		return quotient - 1
	}
	return quotient
}

// up returns a quotient, rounded up. The divisor is above 0.
func up(num, den int) int {
	return -down(-num, den)
}

// nearest returns a quotient, rounded to the nearest number, halves upwards. The divisor is above 0.
func nearest(num, den int) int {
	return down(2*num+den, 2*den)
}

// fractionOf returns a quotient in lowest terms. The divisor is above 0.
func fractionOf(num, den int) api.Frac {
	divisor, rest := den, size(num)
	for rest != 0 {
		divisor, rest = rest, divisor%rest
	}
	return api.Frac{Num: num / divisor, Den: den / divisor}
}
