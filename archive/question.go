package archive

import (
	"slices"
	"strconv"
	"strings"

	"lacquer/api"
	"lacquer/listen"
)

// mostWords is how many words a question has at most.
const mostWords = 3

// questionForm is the first word of a question, and how many words follow.
type questionForm struct {
	word  string
	words int
}

// answer returns the answer to a question, whose words after the first one are given.
type answer func(words []string) (string, api.Errno)

// Ask returns the answer to a question (P10.7).
func Ask(h api.ArchiveHouse, l []api.ArchiveEntry, question string) (string, api.Errno) {
	r, _, e := read(h, l)
	if e != api.OK {
		return "", e
	}
	// More parts than any question has are enough to see that it is none.
	words := strings.SplitN(question, " ", mostWords+1)
	reply, isKnown := r.questions(len(l))[questionForm{words[0], len(words) - 1}]
	if !isKnown || slices.Contains(words, "") {
		return "", api.ErrSyntax
	}
	return reply(words[1:])
}

// questions returns the table of the chapter, for a log with so many entries.
func (r *record) questions(entries int) map[questionForm]answer {
	return map[questionForm]answer{
		{"day", 0}:       func([]string) (string, api.Errno) { return strconv.Itoa(r.day), api.OK },
		{"count", 0}:     func([]string) (string, api.Errno) { return strconv.Itoa(entries), api.OK },
		{"carriers", 0}:  func([]string) (string, api.Errno) { return listed(r.carriersThat(isAny)), api.OK },
		{"projects", 0}:  func([]string) (string, api.Errno) { return listed(r.projectNames()), api.OK },
		{"embargoed", 0}: func([]string) (string, api.Errno) { return listed(r.carriersThat(r.isEmbargoed)), api.OK },
		{"overdue", 0}:   func([]string) (string, api.Errno) { return listed(r.carriersThat(r.isOverdue)), api.OK },
		{"steps", 1}:     func(words []string) (string, api.Errno) { return r.stepsOf(words[0]) },
		{"sum", 2}: func(words []string) (string, api.Errno) {
			return r.sumOf(api.ArchiveResult{Project: words[0], Step: words[1]})
		},
		{"score", 1}: func(words []string) (string, api.Errno) { return r.scoreOf(words[0]) },
	}
}

func isAny(carrier) bool {
	return true
}

// listed returns names in one line.
func listed(names []string) string {
	if len(names) == 0 {
		return "none"
	}
	return strings.Join(names, " ")
}

func (r *record) projectNames() []string {
	var names []string
	for _, p := range r.projects {
		names = append(names, p.Name)
	}
	return names
}

func (r *record) stepsOf(name string) (string, api.Errno) {
	p, e := r.projectNamed(name)
	if e != api.OK {
		return "", e
	}
	return listed(p.activeSteps()), api.OK
}

func (r *record) sumOf(x api.ArchiveResult) (string, api.Errno) {
	y, e := r.resultOf(x)
	if e != api.OK {
		return "", e
	}
	return strconv.Itoa(sumOfSamples(y.signal)), api.OK
}

func (r *record) scoreOf(name string) (string, api.Errno) {
	p, e := r.projectNamed(name)
	if e != api.OK {
		return "", e
	}
	if !p.hasTest() {
		return "", api.ErrNone
	}
	score, e := listen.ScoreOf(p.Test, p.Listen)
	if e != api.OK {
		return "", e
	}
	return strconv.Itoa(score) + " " + strconv.Itoa(len(p.Listen.Answers)), api.OK
}
