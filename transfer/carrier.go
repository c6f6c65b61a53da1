package transfer

import "lacquer/api"

const secondsPerMinute = 60

// CheckCarrier returns the error of a carrier (P1.1).
func CheckCarrier(c api.TransferCarrier) api.Errno {
	return firstError(
		when(!isName(c.Name), api.ErrName),
		when(c.Kind < 0 || c.Kind >= api.TransferCarriers, api.ErrKind),
		checkRange(c.Sides, 1, 2),
		when(c.Kind != api.TransferDisc && c.Sides == 2, api.ErrForm),
		when(!isLowest(c.Speed), api.ErrForm),
		checkRange(c.Speed.Num, 1, api.MaxTransferSpeed),
		checkRange(c.Speed.Den, 1, api.MaxTransferSpeed))
}

// SamplesPerTurn returns the samples of a turn (P1.1).
func SamplesPerTurn(c api.TransferCarrier, rate int) (api.Frac, api.Errno) {
	e := firstError(
		CheckCarrier(c),
		when(c.Kind == api.TransferTape, api.ErrKind),
		checkRange(rate, 1, api.MaxTransferRate))
	if e != api.OK {
		return api.Frac{}, e
	}
	turn := reduced(rate*secondsPerMinute*c.Speed.Den, c.Speed.Num)
	if turn.Num > api.MaxPart || turn.Den > api.MaxPart {
		return api.Frac{}, api.ErrLarge
	}
	return turn, api.OK
}

func isName(s string) bool {
	if len(s) == 0 || len(s) > api.MaxName || !isLetter(s[0]) {
		return false
	}
	for i := range len(s) {
		if !isLetter(s[i]) && !isDigit(s[i]) && s[i] != '-' {
			return false
		}
	}
	return true
}

func isLetter(b byte) bool {
	return b >= 'a' && b <= 'z' || b >= 'A' && b <= 'Z'
}

func isDigit(b byte) bool {
	return b >= '0' && b <= '9'
}

func isLowest(f api.Frac) bool {
	return f.Den > 0 && commonDivisor(f.Num, f.Den) == 1
}

func reduced(num, den int) api.Frac {
	d := commonDivisor(num, den)
	return api.Frac{Num: num / d, Den: den / d}
}

// commonDivisor returns the greatest common divisor of a number of either sign and one above 0.
func commonDivisor(a, b int) int {
	for b != 0 {
		a, b = b, a%b
	}
	return max(a, -a)
}
