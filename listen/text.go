package listen

import (
	"strconv"
	"strings"

	"lacquer/api"
)

// eventKind is the word of a kind of events, and how many numbers, from 0 on, an event may have (0 if it has none).
type eventKind struct {
	word    string
	numbers int
}

var eventKinds = [api.ListenEvents]eventKind{
	api.ListenPlay:   {word: "play", numbers: api.ListenSources},
	api.ListenStop:   {word: "stop"},
	api.ListenAnswer: {word: "answer", numbers: api.ListenAlternative},
	api.ListenRepeat: {word: "repeat"},
}

// FormatEvent returns the string of an event (P9.8).
func FormatEvent(e api.ListenEvent) string {
	if !isKind(e.Kind) {
		return ""
	}
	kind := eventKinds[e.Kind]
	if kind.numbers == 0 {
		return kind.word
	}
	return kind.word + " " + strconv.Itoa(e.Number)
}

// ParseEvent returns the event with this string (P9.8).
func ParseEvent(s string) (api.ListenEvent, api.Errno) {
	event, ok := eventIn(s)
	if !ok {
		return api.ListenEvent{}, api.ErrSyntax
	}
	if e := checkEvent(event); e != api.OK {
		return api.ListenEvent{}, e
	}
	return event, api.OK
}

func isKind(kind int) bool {
	return kind >= 0 && kind < api.ListenEvents
}

// eventIn returns the event with this string, whose number may be any digit.
func eventIn(s string) (api.ListenEvent, bool) {
	word, text, hasNumber := strings.Cut(s, " ")
	for kind, k := range eventKinds {
		if word != k.word || hasNumber != (k.numbers > 0) {
			continue
		}
		if !hasNumber {
			return api.ListenEvent{Kind: kind}, true
		}
		number, ok := digitOf(text)
		return api.ListenEvent{Kind: kind, Number: number}, ok
	}
	return api.ListenEvent{}, false
}

func digitOf(word string) (int, bool) {
	if len(word) != 1 || word[0] < '0' || word[0] > '9' {
		return 0, false
	}
	return int(word[0] - '0'), true
}
