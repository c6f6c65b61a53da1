package join

import (
	"strconv"
	"strings"

	"lacquer/api"
)

const (
	numberDigits = 3
	pieceWords   = 3
)

// FormatPlan returns the string of a plan (P7.7).
func FormatPlan(p api.JoinPlan) string {
	parts := []string{strconv.Itoa(p.Length)}
	for _, piece := range p.Pieces {
		words := []string{strconv.Itoa(piece.From), strconv.Itoa(piece.Source), strconv.Itoa(piece.Lag)}
		parts = append(parts, strings.Join(words, " "))
	}
	return strings.Join(parts, ",")
}

// ParsePlan returns the plan with this string (P7.7).
func ParsePlan(s string) (api.JoinPlan, api.Errno) {
	if len(s) > api.MaxString {
		return api.JoinPlan{}, api.ErrLarge
	}
	plan, ok := planIn(s)
	if !ok {
		return api.JoinPlan{}, api.ErrSyntax
	}
	if e := checkPlan(plan); e != api.OK {
		return api.JoinPlan{}, e
	}
	return plan, api.OK
}

func planIn(s string) (api.JoinPlan, bool) {
	parts := strings.Split(s, ",")
	length, ok := numberOf(parts[0])
	if !ok {
		return api.JoinPlan{}, false
	}
	plan := api.JoinPlan{Length: length}
	for _, part := range parts[1:] {
		piece, ok := pieceIn(part)
		if !ok {
			return api.JoinPlan{}, false
		}
		plan.Pieces = append(plan.Pieces, piece)
	}
	return plan, true
}

func pieceIn(s string) (api.JoinPiece, bool) {
	words := strings.Split(s, " ")
	if len(words) != pieceWords {
		return api.JoinPiece{}, false
	}
	first, firstOK := numberOf(words[0])
	source, sourceOK := numberOf(words[1])
	lag, lagOK := signedNumberOf(words[2])
	return api.JoinPiece{From: first, Source: source, Lag: lag}, firstOK && sourceOK && lagOK
}

// numberOf returns the number with this string, if it has no sign and not too many digits.
func numberOf(word string) (int, bool) {
	if len(word) > numberDigits {
		return 0, false
	}
	n, e := strconv.Atoi(word)
	// Atoi also reads what is no number here, such as "+1", "01" and "-0".
	return n, e == nil && n >= 0 && strconv.Itoa(n) == word
}

// signedNumberOf permits "-" before a number other than 0.
func signedNumberOf(word string) (int, bool) {
	digits, isNegative := strings.CutPrefix(word, "-")
	n, ok := numberOf(digits)
	if isNegative {
		return -n, ok && n != 0
	}
	return n, ok
}
