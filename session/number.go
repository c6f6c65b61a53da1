package session

import (
	"strconv"
	"strings"
)

// numberOf returns the number with this string, if it has no sign and not too many digits.
func numberOf(word string, digits int) (int, bool) {
	if len(word) > digits {
		return 0, false
	}
	n, e := strconv.Atoi(word)
	// Atoi also reads what is no number here, such as "+1", "01" and "-0".
	return n, e == nil && n >= 0 && strconv.Itoa(n) == word
}

// signedNumberOf permits "-" before a number other than 0.
func signedNumberOf(word string, digits int) (int, bool) {
	unsigned, isNegative := strings.CutPrefix(word, "-")
	n, ok := numberOf(unsigned, digits)
	if isNegative {
		return -n, ok && n != 0
	}
	return n, ok
}
