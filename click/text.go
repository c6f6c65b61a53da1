package click

import (
	"strconv"
	"strings"

	"lacquer/api"
)

const (
	numberDigits = 6
	rulesNumbers = 5 // with the window, which is not written of ClickCurve
	unsignedHum  = 2 // numbers of a hum that come before its table
)

var kindWords = [api.ClickKinds]string{"median", "curve"}

// FormatRules returns the string of rules (P5.7).
func FormatRules(r api.ClickRules) string {
	switch r.Kind {
	case api.ClickMedian:
		return kindWords[r.Kind] + " " + joined(r.Window, r.Threshold, r.Join, r.Most, r.Percent)
	case api.ClickCurve:
		return kindWords[r.Kind] + " " + joined(r.Threshold, r.Join, r.Most, r.Percent)
	}
	return ""
}

// ParseRules returns the rules with this string (P5.7).
func ParseRules(s string) (api.ClickRules, api.Errno) {
	r, ok := rulesIn(s)
	if !ok {
		return api.ClickRules{}, api.ErrSyntax
	}
	if e := CheckRules(r); e != api.OK {
		return api.ClickRules{}, e
	}
	return r, api.OK
}

// FormatHum returns the string of a hum (P5.7).
func FormatHum(h api.ClickHum) string {
	numbers := []int{h.Period, h.Phase}
	return joined(append(numbers, h.Table...)...)
}

// ParseHum returns the hum with this string (P5.7).
func ParseHum(s string) (api.ClickHum, api.Errno) {
	h, ok := humIn(s)
	if !ok {
		return api.ClickHum{}, api.ErrSyntax
	}
	if e := CheckHum(h); e != api.OK {
		return api.ClickHum{}, e
	}
	return h, api.OK
}

func rulesIn(s string) (api.ClickRules, bool) {
	word, rest, _ := strings.Cut(s, " ")
	switch word {
	case kindWords[api.ClickMedian]:
		return kindIn(api.ClickMedian, rest)
	case kindWords[api.ClickCurve]:
		return kindIn(api.ClickCurve, "0 "+rest)
	}
	return api.ClickRules{}, false
}

// kindIn returns the rules with these numbers, the first of which is the window.
func kindIn(kind int, s string) (api.ClickRules, bool) {
	numbers, ok := numbersIn(s, rulesNumbers)
	if !ok || len(numbers) != rulesNumbers {
		return api.ClickRules{}, false
	}
	return api.ClickRules{
		Kind:      kind,
		Window:    numbers[0],
		Threshold: numbers[1],
		Join:      numbers[2],
		Most:      numbers[3],
		Percent:   numbers[4],
	}, true
}

func humIn(s string) (api.ClickHum, bool) {
	numbers, ok := numbersIn(s, unsignedHum)
	if !ok || len(numbers) < unsignedHum {
		return api.ClickHum{}, false
	}
	return api.ClickHum{
		Period: numbers[0],
		Phase:  numbers[1],
		Table:  numbers[unsignedHum:],
	}, true
}

// joined returns numbers that are separated by single blanks.
func joined(numbers ...int) string {
	var words []string
	for _, n := range numbers {
		words = append(words, strconv.Itoa(n))
	}
	return strings.Join(words, " ")
}

// numbersIn returns the numbers of a string that are separated by single blanks, of which as many as unsigned, at the beginning, have no sign.
func numbersIn(s string, unsigned int) ([]int, bool) {
	var numbers []int
	for i, word := range strings.Split(s, " ") {
		read := signedNumberOf
		if i < unsigned {
			read = numberOf
		}
		n, ok := read(word)
		if !ok {
			return nil, false
		}
		numbers = append(numbers, n)
	}
	return numbers, true
}

// numberOf returns the number with this string, if it has no sign and not too many digits.
func numberOf(word string) (int, bool) {
	if len(word) > numberDigits {
		return 0, false
	}
	n, e := strconv.Atoi(word)
	// Atoi also reads what is no number here, such as "+1", "01" and "-0".
	return n, e == nil && n >= 0 && strconv.Itoa(n) == word
}

// signedNumberOf permits "-" before a number other than 0.
func signedNumberOf(word string) (int, bool) {
	after, isNegative := strings.CutPrefix(word, "-")
	n, ok := numberOf(after)
	if isNegative {
		return -n, ok && n != 0
	}
	return n, ok
}
