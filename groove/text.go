package groove

import (
	"strconv"
	"strings"

	"lacquer/api"
)

// maxParsed is the greatest number of 7 digits.
const maxParsed = 9999999

// FormatPath returns the string of a path (P2.8).
func FormatPath(l []int) string {
	var words []string
	for _, n := range l {
		words = append(words, strconv.Itoa(n))
	}
	return strings.Join(words, " ")
}

// ParsePath returns the numbers with this string (P2.8).
func ParsePath(s string) ([]int, api.Errno) {
	if len(s) > api.MaxString {
		return nil, api.ErrLarge
	}
	l, ok := numbersIn(s)
	if !ok {
		return nil, api.ErrSyntax
	}
	if e := checkPositions(l); e != api.OK {
		return nil, e
	}
	return l, api.OK
}

func numbersIn(s string) ([]int, bool) {
	if s == "" {
		return nil, true
	}
	var l []int
	for _, word := range strings.Split(s, " ") {
		n, e := strconv.Atoi(word)
		// Atoi also reads what is no number here, such as "+1", "01" and "-0".
		if e != nil || strconv.Itoa(n) != word || !areAtMost(maxParsed, n) {
			return nil, false
		}
		l = append(l, n)
	}
	return l, true
}
