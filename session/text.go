package session

import (
	"strconv"
	"strings"

	"lacquer/api"
)

const (
	stepParts   = 6
	changeParts = 4
	doubtDigits = 1
)

var eventWords = [api.SessionEvents]string{
	api.SessionAdd:    "add",
	api.SessionChange: "change",
	api.SessionUndo:   "undo",
	api.SessionRedo:   "redo",
}

// FormatStep returns the string of a step (P8.7).
func FormatStep(x api.SessionStep) string {
	sign := "-"
	if x.Active {
		sign = "+"
	}
	word := "?"
	if isStepKind(x.Kind) {
		word = stepKinds()[x.Kind].word
	}
	return sign + strings.Join([]string{x.Name, word, strings.Join(x.Inputs, ","), x.By, strconv.Itoa(x.Doubt), x.Text}, ":")
}

// ParseStep returns the step with this string (P8.7).
func ParseStep(t string) (api.SessionStep, api.Errno) {
	step, ok := stepIn(t)
	if !ok {
		return api.SessionStep{}, api.ErrSyntax
	}
	if e := checkAlone(step); e != api.OK {
		return api.SessionStep{}, e
	}
	return step, api.OK
}

// FormatEvent returns the string of an event (P8.7).
func FormatEvent(e api.SessionEvent) string {
	if e.Kind < 0 || e.Kind >= api.SessionEvents {
		return ""
	}
	step, text := e.Step, e.Step.Name
	switch e.Kind {
	case api.SessionAdd:
		step.Active = true
		text = FormatStep(step)
	case api.SessionChange:
		text = strings.Join([]string{step.Name, step.By, strconv.Itoa(step.Doubt), step.Text}, ":")
	}
	return eventWords[e.Kind] + " " + text
}

// ParseEvent returns the event with this string (P8.7).
func ParseEvent(t string) (api.SessionEvent, api.Errno) {
	event, ok := eventIn(t)
	if !ok {
		return api.SessionEvent{}, api.ErrSyntax
	}
	if e := CheckEvent(event); e != api.OK {
		return api.SessionEvent{}, e
	}
	return event, api.OK
}

// stepIn returns the step with this string, which may have errors.
func stepIn(t string) (api.SessionStep, bool) {
	if !strings.HasPrefix(t, "+") && !strings.HasPrefix(t, "-") {
		return api.SessionStep{}, false
	}
	parts := strings.SplitN(t[1:], ":", stepParts)
	if len(parts) < stepParts {
		return api.SessionStep{}, false
	}
	kind, kindOK := kindOf(parts[1])
	doubt, doubtOK := numberOf(parts[4], doubtDigits)
	step := api.SessionStep{Name: parts[0], Kind: kind, Text: parts[5], By: parts[3], Doubt: doubt, Active: t[0] == '+'}
	if parts[2] != "" {
		step.Inputs = strings.Split(parts[2], ",")
	}
	return step, kindOK && doubtOK
}

// kindOf returns the kind of steps with this word.
func kindOf(word string) (int, bool) {
	for kind, k := range stepKinds() {
		if word == k.word {
			return kind, true
		}
	}
	return 0, false
}

// eventIn returns the event with this string, which may have errors.
func eventIn(t string) (api.SessionEvent, bool) {
	word, text, hasText := strings.Cut(t, " ")
	for kind, known := range eventWords {
		if hasText && word == known {
			step, ok := eventStepIn(kind, text)
			return api.SessionEvent{Kind: kind, Step: step}, ok
		}
	}
	return api.SessionEvent{}, false
}

func eventStepIn(kind int, text string) (api.SessionStep, bool) {
	switch kind {
	case api.SessionAdd:
		return stepIn(text)
	case api.SessionChange:
		return changeIn(text)
	}
	return api.SessionStep{Name: text}, true
}

func changeIn(text string) (api.SessionStep, bool) {
	parts := strings.SplitN(text, ":", changeParts)
	if len(parts) < changeParts {
		return api.SessionStep{}, false
	}
	doubt, ok := numberOf(parts[2], doubtDigits)
	return api.SessionStep{Name: parts[0], By: parts[1], Doubt: doubt, Text: parts[3]}, ok
}
