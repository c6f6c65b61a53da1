package spectrum

import (
	"strconv"
	"strings"

	"lacquer/api"
)

const (
	numberDigits = 3
	editNumbers  = 5 // numbers that follow the word of an edit
)

var kindWords = [api.SpectrumKinds]string{"gain", "copy"}

// FormatEdit returns the string of an edit (P6.7).
func FormatEdit(e api.SpectrumEdit) string {
	if !isKind(e.Kind) {
		return ""
	}
	s := kindWords[e.Kind]
	for _, n := range []int{e.Region.Frames.Lo, e.Region.Frames.Hi, e.Region.Bins.Lo, e.Region.Bins.Hi, e.Number} {
		s += " " + strconv.Itoa(n)
	}
	return s
}

// ParseEdit returns the edit with this string (P6.7).
func ParseEdit(s string) (api.SpectrumEdit, api.Errno) {
	edit, ok := editIn(s)
	if !ok {
		return api.SpectrumEdit{}, api.ErrSyntax
	}
	if e := CheckEdit(edit); e != api.OK {
		return api.SpectrumEdit{}, e
	}
	return edit, api.OK
}

func editIn(s string) (api.SpectrumEdit, bool) {
	word, rest, _ := strings.Cut(s, " ")
	kind, isKnown := kindOf(word)
	n, ok := numbersIn(rest)
	if !isKnown || !ok {
		return api.SpectrumEdit{}, false
	}
	return api.SpectrumEdit{
		Kind: kind,
		Region: api.SpectrumRegion{
			Frames: api.Range{Lo: n[0], Hi: n[1]},
			Bins:   api.Range{Lo: n[2], Hi: n[3]},
		},
		Number: n[4],
	}, true
}

func kindOf(word string) (int, bool) {
	for kind := range api.SpectrumKinds {
		if word == kindWords[kind] {
			return kind, true
		}
	}
	return 0, false
}

// numbersIn returns the numbers of a string that are separated by single blanks, if there are as many as an edit has.
func numbersIn(s string) ([editNumbers]int, bool) {
	var numbers [editNumbers]int
	words := strings.SplitN(s, " ", editNumbers+1)
	if len(words) != editNumbers {
		return numbers, false
	}
	for i, word := range words {
		n, ok := numberOf(word)
		if !ok {
			return numbers, false
		}
		numbers[i] = n
	}
	return numbers, true
}

// numberOf returns the number with this string, if it has no sign and not too many digits.
func numberOf(word string) (int, bool) {
	if len(word) > numberDigits {
		return 0, false
	}
	n, e := strconv.Atoi(word)
	// Atoi also reads what is no number here, such as "+1", "01" and "-0".
	return n, e == nil && n >= 0 && strconv.Itoa(n) == word
}
