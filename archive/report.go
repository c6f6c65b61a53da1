package archive

import (
	"strconv"
	"strings"

	"lacquer/api"
)

// Report returns the report of a log (P10.7).
func Report(h api.ArchiveHouse, l []api.ArchiveEntry) (string, api.Errno) {
	r, _, e := read(h, l)
	if e != api.OK {
		return "", e
	}
	report := line("day", r.day)
	for _, c := range r.carriers {
		report += line("carrier", c.Carrier.Name, len(c.Blocks), r.whereabouts(c))
	}
	for _, p := range r.projects {
		report += line("project", p.Name, len(p.Steps), len(p.activeSteps()))
	}
	heard, delivered := r.hearingsByKind()
	return report + line("heard", heard, delivered), api.OK
}

func (r *record) whereabouts(c carrier) string {
	switch {
	case r.isEmbargoed(c):
		return "embargo"
	case c.isLent():
		return "lent"
	}
	return "here"
}

func (r *record) hearingsByKind() (heard, delivered int) {
	for _, x := range r.hearings {
		if x.To == "" {
			heard++
		} else {
			delivered++
		}
	}
	return heard, delivered
}

// line returns a line with words and numbers, separated by blanks.
func line(parts ...any) string {
	var words []string
	for _, part := range parts {
		switch v := part.(type) {
		case int:
			words = append(words, strconv.Itoa(v))
		case string:
			words = append(words, v)
		}
	}
	return strings.Join(words, " ") + "\n"
}
