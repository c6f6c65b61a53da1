package speed

import (
	"strconv"
	"strings"

	"lacquer/api"
)

const (
	positionDigits = 7
	timeDigits     = 13
	markWords      = 3
)

// FormatMap returns the string of a map (P3.7).
func FormatMap(m api.SpeedMap) string {
	var words []string
	for _, node := range m.Nodes {
		words = append(words, strconv.Itoa(node.Position)+"@"+strconv.Itoa(node.Time))
	}
	return strings.Join(words, " ")
}

// ParseMap returns the map with this string (P3.7).
func ParseMap(s string) (api.SpeedMap, api.Errno) {
	if len(s) > api.MaxString {
		return api.SpeedMap{}, api.ErrLarge
	}
	m, ok := mapIn(s)
	if !ok {
		return api.SpeedMap{}, api.ErrSyntax
	}
	if e := checkMap(m); e != api.OK {
		return api.SpeedMap{}, e
	}
	return m, api.OK
}

// FormatMark returns the string of a mark (P3.7).
func FormatMark(x api.SpeedMark) string {
	return strings.Join([]string{strconv.Itoa(x.Position), strconv.Itoa(x.Time.Lo), strconv.Itoa(x.Time.Hi)}, " ")
}

// ParseMark returns the mark with this string (P3.7).
func ParseMark(s string) (api.SpeedMark, api.Errno) {
	mark, ok := markIn(s)
	if !ok {
		return api.SpeedMark{}, api.ErrSyntax
	}
	if e := checkMark(mark); e != api.OK {
		return api.SpeedMark{}, e
	}
	return mark, api.OK
}

func mapIn(s string) (api.SpeedMap, bool) {
	var m api.SpeedMap
	for _, word := range strings.Split(s, " ") {
		left, right, _ := strings.Cut(word, "@")
		position, positionOK := numberOf(left, positionDigits)
		time, timeOK := numberOf(right, timeDigits)
		if !positionOK || !timeOK {
			return api.SpeedMap{}, false
		}
		m.Nodes = append(m.Nodes, api.SpeedNode{Position: position, Time: time})
	}
	return m, true
}

func markIn(s string) (api.SpeedMark, bool) {
	words := strings.SplitN(s, " ", markWords+1)
	if len(words) != markWords {
		return api.SpeedMark{}, false
	}
	position, positionOK := numberOf(words[0], timeDigits)
	lo, loOK := numberOf(words[1], timeDigits)
	hi, hiOK := numberOf(words[2], timeDigits)
	return api.SpeedMark{Position: position, Time: api.Range{Lo: lo, Hi: hi}}, positionOK && loOK && hiOK
}

// numberOf returns the number with this string, if it has no sign and not too many digits.
func numberOf(word string, digits int) (int, bool) {
	if len(word) > digits {
		return 0, false
	}
	n, e := strconv.Atoi(word)
	// Atoi also reads what is no number here, such as "+1", "01" and "-0".
	return n, e == nil && n >= 0 && strconv.Itoa(n) == word
}
