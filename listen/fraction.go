package listen

import "lacquer/api"

// fractionOf returns a quotient of numbers from 0 on in lowest terms. The divisor is above 0.
func fractionOf(num, den int) api.Frac {
	divisor := commonDivisor(num, den)
	return api.Frac{Num: num / divisor, Den: den / divisor}
}

// isLowest tells whether a fraction, whatever its numbers are, is in lowest terms with Den above 0.
func isLowest(f api.Frac) bool {
	if f.Den <= 0 {
		return false
	}
	divisor := commonDivisor(f.Num, f.Den)
	return divisor == 1 || divisor == -1
}

// commonDivisor returns the greatest common divisor, which may have a sign if a number has one.
func commonDivisor(a, b int) int {
	for a != 0 {
		a, b = b%a, a
	}
	return b
}
