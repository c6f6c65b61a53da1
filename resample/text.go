package resample

import (
	"strconv"
	"strings"

	"lacquer/api"
	"lacquer/speed"
)

const (
	numberDigits = 4
	stepDigits   = 13
)

var kindWords = [api.ResampleKinds]string{"ratio", "map"}

// FormatRules returns the string of rules (P4.6).
func FormatRules(r api.ResampleRules) string {
	switch r.Kind {
	case api.ResampleRatio:
		return kindWords[r.Kind] + " " + joined(r.Degree, r.Num, r.Den)
	case api.ResampleMap:
		return kindWords[r.Kind] + " " + joined(r.Degree, r.Step) + " " + speed.FormatMap(r.Map)
	}
	return ""
}

// ParseRules returns the rules with this string (P4.6).
func ParseRules(s string) (api.ResampleRules, api.Errno) {
	if len(s) > api.MaxString {
		return api.ResampleRules{}, api.ErrLarge
	}
	r, e := rulesIn(s)
	if e := firstError(e, CheckRules(r)); e != api.OK {
		return api.ResampleRules{}, e
	}
	return r, api.OK
}

// FormatFilter returns the string of a filter (P4.6).
func FormatFilter(f api.ResampleFilter) string {
	if len(f.Coefficients) == 0 {
		return joined(f.Den)
	}
	return joined(f.Den) + " " + joined(f.Coefficients...)
}

// ParseFilter returns the filter with this string (P4.6).
func ParseFilter(s string) (api.ResampleFilter, api.Errno) {
	f, ok := filterIn(s)
	if !ok {
		return api.ResampleFilter{}, api.ErrSyntax
	}
	if e := CheckFilter(f); e != api.OK {
		return api.ResampleFilter{}, e
	}
	return f, api.OK
}

func rulesIn(s string) (api.ResampleRules, api.Errno) {
	word, rest, _ := strings.Cut(s, " ")
	switch word {
	case kindWords[api.ResampleRatio]:
		return ratioIn(rest)
	case kindWords[api.ResampleMap]:
		return mapIn(rest)
	}
	return api.ResampleRules{}, api.ErrSyntax
}

// ratioIn returns the rules whose string has these words after the first one.
func ratioIn(s string) (api.ResampleRules, api.Errno) {
	words, ok := partsOf(s)
	degree, degreeOK := numberOf(words[0], numberDigits)
	num, numOK := numberOf(words[1], numberDigits)
	den, denOK := numberOf(words[2], numberDigits)
	if !ok || !degreeOK || !numOK || !denOK {
		return api.ResampleRules{}, api.ErrSyntax
	}
	return api.ResampleRules{Kind: api.ResampleRatio, Degree: degree, Num: num, Den: den}, api.OK
}

// mapIn returns the rules whose string has these words after the first one.
func mapIn(s string) (api.ResampleRules, api.Errno) {
	words, ok := partsOf(s)
	degree, degreeOK := numberOf(words[0], numberDigits)
	step, stepOK := numberOf(words[1], stepDigits)
	if !ok || !degreeOK || !stepOK {
		return api.ResampleRules{}, api.ErrSyntax
	}
	m, e := speed.ParseMap(words[2])
	return api.ResampleRules{Kind: api.ResampleMap, Degree: degree, Step: step, Map: m}, e
}

func filterIn(s string) (api.ResampleFilter, bool) {
	words := strings.Split(s, " ")
	den, ok := numberOf(words[0], numberDigits)
	if !ok {
		return api.ResampleFilter{}, false
	}
	f := api.ResampleFilter{Den: den}
	for _, word := range words[1:] {
		c, ok := signedNumberOf(word, numberDigits)
		if !ok {
			return api.ResampleFilter{}, false
		}
		f.Coefficients = append(f.Coefficients, c)
	}
	return f, true
}

// joined returns numbers that are separated by single blanks.
func joined(numbers ...int) string {
	var words []string
	for _, n := range numbers {
		words = append(words, strconv.Itoa(n))
	}
	return strings.Join(words, " ")
}

// partsOf returns two words, and what follows the blank behind them.
func partsOf(s string) ([3]string, bool) {
	parts := strings.SplitN(s, " ", 3)
	if len(parts) != 3 {
		return [3]string{}, false
	}
	return [3]string(parts), true
}

// numberOf returns the number with this string, if it has no sign and not too many digits.
func numberOf(word string, digits int) (int, bool) {
	if len(word) > digits {
		return 0, false
	}
	n, e := strconv.Atoi(word)
	// Atoi also reads what is no number here, such as "+1", "01" and "-0".
	return n, e == nil && n >= 0 && strconv.Itoa(n) == word
}

// signedNumberOf permits "-" before a number other than 0.
func signedNumberOf(word string, digits int) (int, bool) {
	after, isNegative := strings.CutPrefix(word, "-")
	n, ok := numberOf(after, digits)
	if isNegative {
		return -n, ok && n != 0
	}
	return n, ok
}
