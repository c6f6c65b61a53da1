package archive_test

import (
	"fmt"
	"math/rand/v2"
	"regexp"
	"slices"
	"sort"
	"strconv"
	"strings"
	"testing"

	"lacquer/api"
	"lacquer/archive"
	"lacquer/listen"
	"lacquer/session"
	"lacquer/transfer"
)

// model is the document's state, and what was heard with the carriers that it needed.
type model struct {
	api.ArchiveState
	heard [][]int
	needs [][]string
}

// shape is the role that a first word requires, and the form of the whole text.
type shape struct {
	role int
	form *regexp.Regexp
}

var shapes = map[string]shape{
	"note":    {0, regexp.MustCompile(`^note (.*)$`)},
	"day":     {1, regexp.MustCompile(`^day ([^ ]+)$`)},
	"carrier": {3, regexp.MustCompile(`^carrier (.*)$`)},
	"embargo": {3, regexp.MustCompile(`^embargo ([^ ]+) ([^ ]+)$`)},
	"lend":    {3, regexp.MustCompile(`^lend ([^ ]+) ([^ ]+) ([^ ]+)$`)},
	"back":    {3, regexp.MustCompile(`^back ([^ ]+)$`)},
	"block":   {1, regexp.MustCompile(`^block ([^ ]+) (.*)$`)},
	"project": {2, regexp.MustCompile(`^project ([^ ]+) ([^ ]+)$`)},
	"step":    {2, regexp.MustCompile(`^step ([^ ]+) (.*)$`)},
	"test":    {2, regexp.MustCompile(`^test ([^ ]+) (.*)$`)},
	"listen":  {0, regexp.MustCompile(`^listen ([^ ]+) (.*)$`)},
	"hear":    {0, regexp.MustCompile(`^hear ([^ ]+) ([^ ]+)$`)},
	"deliver": {3, regexp.MustCompile(`^deliver ([^ ]+) ([^ ]+) ([^ ]+)$`)},
}

var (
	printable = regexp.MustCompile(`^[ -~]*$`)
	firstWord = regexp.MustCompile(`^[^ ]*`)
	dateForm  = regexp.MustCompile(`^(0|[1-9][0-9]{0,5})$`)
	nameForm  = regexp.MustCompile(`^[A-Za-z][A-Za-z0-9-]{0,11}$`)
	testForm  = regexp.MustCompile(`^[01]+$`)
)

// enter returns the model after an entry, and the entry's error.
func (m model) enter(h api.ArchiveHouse, x api.ArchiveEntry) (model, api.Errno) {
	who := slices.IndexFunc(h.People, func(p api.ArchivePerson) bool { return p.Name == x.By })
	if who < 0 {
		return m, api.ErrMissing
	}
	if len(x.Text) > 300 {
		return m, api.ErrLarge
	}
	if !printable.MatchString(x.Text) || strings.HasSuffix(x.Text, "\n") {
		return m, api.ErrForm
	}
	word := firstWord.FindString(x.Text)
	s, ok := shapes[word]
	if !ok {
		return m, api.ErrSyntax
	}
	if h.People[who].Role < s.role {
		return m, api.ErrAllowed
	}
	parts := s.form.FindStringSubmatch(x.Text)
	if parts == nil {
		return m, api.ErrSyntax
	}
	m.Carriers, m.Projects, m.Hearings = slices.Clone(m.Carriers), slices.Clone(m.Projects), slices.Clone(m.Hearings)
	return m.changed(x.By, word, parts[1:])
}

func (m model) changed(by, word string, a []string) (model, api.Errno) {
	switch word {
	case "note":
		return m, api.OK
	case "day":
		n, e := dateOf(a[0])
		if e == api.OK && n < m.Day {
			e = api.ErrOrder
		}
		m.Day = n
		return m, e
	case "carrier":
		return m.withCarrier(a[0])
	case "embargo", "lend", "back", "block":
		i := slices.IndexFunc(m.Carriers, func(c api.ArchiveCarrier) bool { return c.Carrier.Name == a[0] })
		if i < 0 {
			return m, api.ErrMissing
		}
		e := m.changeCarrier(&m.Carriers[i], word, a)
		return m, e
	case "project":
		return m.withProject(a[0], strings.Split(a[1], ","))
	}
	i := slices.IndexFunc(m.Projects, func(p api.ArchiveProject) bool { return p.Name == a[0] })
	if i < 0 {
		return m, api.ErrMissing
	}
	switch word {
	case "hear":
		return m.withHearing(m.Projects[i], api.ArchiveHearing{Step: a[1], By: by})
	case "deliver":
		if !isName(a[2]) {
			return m, api.ErrName
		}
		return m.withHearing(m.Projects[i], api.ArchiveHearing{Step: a[1], By: by, To: a[2]})
	}
	e := changeProject(&m.Projects[i], by, word, a[1])
	return m, e
}

func dateOf(s string) (int, api.Errno) {
	if !dateForm.MatchString(s) {
		return 0, api.ErrForm
	}
	n, _ := strconv.Atoi(s)
	if n > 100000 {
		return 0, api.ErrRange
	}
	return n, api.OK
}

func isName(s string) bool {
	return nameForm.MatchString(s)
}

func (m model) withCarrier(text string) (model, api.Errno) {
	c, e := transfer.ParseCarrier(text)
	if e != api.OK {
		return m, e
	}
	for _, other := range m.Carriers {
		if other.Carrier.Name == c.Name {
			return m, api.ErrExists
		}
	}
	if len(m.Carriers) == 6 {
		return m, api.ErrFull
	}
	m.Carriers = append(m.Carriers, api.ArchiveCarrier{Carrier: c, Embargo: -1, Until: -1})
	return m, api.OK
}

func (m model) changeCarrier(c *api.ArchiveCarrier, word string, a []string) api.Errno {
	switch word {
	case "embargo":
		n, e := dateOf(a[1])
		if e == api.OK {
			c.Embargo = n
		}
		return e
	case "lend":
		if !isName(a[1]) {
			return api.ErrName
		}
		n, e := dateOf(a[2])
		if e == api.OK && n < m.Day {
			e = api.ErrLate
		}
		if e == api.OK && c.Until >= 0 {
			e = api.ErrBusy
		}
		if e == api.OK {
			c.To, c.Until = a[1], n
		}
		return e
	case "back":
		if c.Until < 0 {
			return api.ErrState
		}
		c.To, c.Until = "", -1
		return api.OK
	}
	if c.Until >= 0 {
		return api.ErrBusy
	}
	b, e := transfer.ParseBlock(a[1])
	if e != api.OK {
		return e
	}
	if b.Channel != 0 {
		return api.ErrForm
	}
	if len(c.Blocks) == 10 {
		return api.ErrFull
	}
	blocks := slices.Concat(c.Blocks, []api.TransferBlock{b})
	if _, e = transfer.StreamOf(blocks, 0); e == api.OK {
		c.Blocks = blocks
	}
	return e
}

func (m model) withProject(name string, carriers []string) (model, api.Errno) {
	if !isName(name) {
		return m, api.ErrName
	}
	for _, p := range m.Projects {
		if p.Name == name {
			return m, api.ErrExists
		}
	}
	if len(m.Projects) == 4 {
		return m, api.ErrFull
	}
	x := api.ArchiveProject{Name: name}
	seen := map[string]bool{}
	for _, carrier := range carriers {
		i := slices.IndexFunc(m.Carriers, func(c api.ArchiveCarrier) bool { return c.Carrier.Name == carrier })
		if i < 0 {
			return m, api.ErrMissing
		}
		if seen[carrier] {
			return m, api.ErrDouble
		}
		seen[carrier] = true
		if len(m.Carriers[i].Blocks) == 0 {
			return m, api.ErrNone
		}
		stream, _ := transfer.StreamOf(m.Carriers[i].Blocks, 0)
		if len(stream.Samples) > 256 {
			return m, api.ErrLarge
		}
		x.Sources = append(x.Sources, api.SessionSource{Name: carrier, Signal: stream.Samples})
	}
	sort.Slice(x.Sources, func(i, j int) bool { return x.Sources[i].Name < x.Sources[j].Name })
	m.Projects = append(m.Projects, x)
	return m, api.OK
}

func changeProject(p *api.ArchiveProject, by, word, text string) api.Errno {
	switch word {
	case "step":
		v, e := session.ParseEvent(text)
		if e != api.OK {
			return e
		}
		if (v.Kind == api.SessionAdd || v.Kind == api.SessionChange) && v.Step.By != by {
			return api.ErrClash
		}
		steps, e := session.Apply(p.Sources, p.Steps, v)
		if e == api.OK {
			p.Steps = steps
		}
		return e
	case "test":
		if !testForm.MatchString(text) {
			return api.ErrSyntax
		}
		if len(text) > 10 {
			return api.ErrLarge
		}
		if len(p.Listen.Answers) != len(p.Test.Hidden) {
			return api.ErrBusy
		}
		p.Test = api.ListenRules{}
		for _, c := range text {
			p.Test.Hidden = append(p.Test.Hidden, int(c-'0'))
		}
		p.Listen = api.ListenState{Playing: -1}
		return api.OK
	}
	if p.Test.Hidden == nil {
		return api.ErrNone
	}
	v, e := listen.ParseEvent(text)
	if e != api.OK {
		return e
	}
	s, e := listen.Apply(p.Test, p.Listen, v)
	if e == api.OK {
		p.Listen = s
	}
	return e
}

// needed adds the names of all sources that a step needs.
func needed(p api.ArchiveProject, name string, all map[string]bool) {
	for _, s := range p.Sources {
		if s.Name == name {
			all[name] = true
		}
	}
	for _, s := range p.Steps {
		if s.Name == name {
			for _, input := range s.Inputs {
				needed(p, input, all)
			}
		}
	}
}

func sourcesOf(p api.ArchiveProject, name string) []string {
	all := map[string]bool{}
	needed(p, name, all)
	var l []string
	for s := range all {
		l = append(l, s)
	}
	sort.Strings(l)
	return l
}

// refused says whether one of some carriers is under an embargo.
func (m model) refused(names []string) bool {
	for _, c := range m.Carriers {
		if c.Embargo >= m.Day && slices.Contains(names, c.Carrier.Name) {
			return true
		}
	}
	return false
}

func (m model) rendered(p api.ArchiveProject, step string) ([]int, api.Errno) {
	i := slices.IndexFunc(p.Steps, func(s api.SessionStep) bool { return s.Name == step })
	if i < 0 {
		return nil, api.ErrMissing
	}
	if !p.Steps[i].Active {
		return nil, api.ErrState
	}
	if m.refused(sourcesOf(p, step)) {
		return nil, api.ErrRefused
	}
	return session.Render(p.Sources, p.Steps, step)
}

func (m model) withHearing(p api.ArchiveProject, x api.ArchiveHearing) (model, api.Errno) {
	signal, e := m.rendered(p, x.Step)
	if e != api.OK {
		return m, e
	}
	if len(m.Hearings) == 20 {
		return m, api.ErrFull
	}
	x.Day, x.Project = m.Day, p.Name
	x.Sum = 1
	for _, n := range signal {
		x.Sum = (x.Sum*31 + n + maxSample) % 65521
	}
	m.Hearings = append(m.Hearings, x)
	m.heard = append(slices.Clone(m.heard), signal)
	m.needs = append(slices.Clone(m.needs), sourcesOf(p, x.Step))
	return m, api.OK
}

// modelOf returns the model after a log of the house of the examples.
func modelOf(t *testing.T, l []api.ArchiveEntry) model {
	t.Helper()
	var m model
	for _, x := range l {
		next, e := m.enter(house(), x)
		if e != api.OK {
			t.Fatal(x, e)
		}
		m = next
	}
	return m
}

func carrierNames() []string { return []string{"d", "c", "e", "E", "f-", "g", "h"} }

func projectNames() []string { return []string{"p", "q", "r", "P", "s"} }

func stepNames() []string { return []string{"loud", "a", "b", "B"} }

// someEntry returns an entry that may be accepted, and sometimes has an error.
func someEntry(d *rand.Rand, m model) api.ArchiveEntry {
	x := api.ArchiveEntry{By: oneOf(d, []string{"kim", "kim", "kim", "kim", "kim", "ray", "tea", "lee", "zoe"}), Text: someText(d, m)}
	switch d.IntN(60) {
	case 0:
		x.Text = x.Text[:d.IntN(len(x.Text)+1)]
	case 1:
		x.Text = strings.Replace(x.Text, " ", "  ", 1)
	case 2:
		x.Text += " "
	case 3:
		x.Text += oneOf(d, []string{"\n", "\x7f", "~", "\x1f", "\u00e4", strings.Repeat(" ", 300)})
	}
	return x
}

// someName returns a name that exists, mostly.
func someName(d *rand.Rand, names []string, count int) string {
	if count == 0 || d.IntN(12) == 0 {
		return oneOf(d, names)
	}
	return names[d.IntN(min(count, len(names)))]
}

func someText(d *rand.Rand, m model) string {
	var carriers, projects []string
	for _, c := range m.Carriers {
		carriers = append(carriers, c.Carrier.Name)
	}
	for _, p := range m.Projects {
		projects = append(projects, p.Name)
	}
	c := someName(d, append(carriers, carrierNames()...), len(carriers))
	p := someName(d, append(projects, projectNames()...), len(projects))
	date := strconv.Itoa(max(0, m.Day+between(d, -1, 3)))
	step := oneOf(d, stepNames())
	switch d.IntN(24) {
	case 0:
		return "note " + oneOf(d, []string{"", "x", " x  y ", "~!"})
	case 1:
		return "day " + oneOf(d, []string{date, date, date, "x", "01", "100001", "-1"})
	case 2:
		return "carrier " + oneOf(d, carrierNames()) + " " + oneOf(d, []string{"disc 1 78/1", "disc 2 100/3", "tape 1 19/1", "cylinder 1 160/1", "disc 3 78/1", "tape 2 1/1", "disc 1"})
	case 3:
		return "embargo " + c + " " + date
	case 4:
		return "lend " + c + " " + oneOf(d, []string{"radio", "museum", "museum", "7"}) + " " + date
	case 5:
		return "back " + c
	case 6, 7, 8, 9:
		s := blockOf(oneOf(d, []int{0, 1, 2, 3, 3, 33, 50, 61}), max(0, d.IntN(12)-10), between(d, -9, 9), between(d, -9, 9))
		return "block " + c + " " + oneOf(d, []string{s, s, s, s, s, s, s, s + "0", s + " 1"})
	case 10, 11:
		return "project " + oneOf(d, append(projectNames(), "7")) + " " + oneOf(d, []string{c, c + "," + oneOf(d, carrierNames()), oneOf(d, carrierNames()) + "," + c + "," + oneOf(d, carrierNames())})
	case 12, 13, 14, 15:
		return "step " + p + " " + someEvent(d, step, c)
	case 16:
		return "test " + p + " " + oneOf(d, []string{"0", "1", "01", "10", "1", "", "2", "0 1", "01010101010", "0101010101"})
	case 17, 18, 19:
		return "listen " + p + " " + oneOf(d, []string{"play 0", "play 1", "play 2", "stop", "answer 0", "answer 1", "repeat", "play 3", "stop 1", "sing"})
	case 20:
		return "deliver " + p + " " + step + " " + oneOf(d, []string{"radio", "museum", "museum", "7"})
	}
	return "hear " + p + " " + step
}

func someEvent(d *rand.Rand, step, carrier string) string {
	by := oneOf(d, []string{"kim", "kim", "kim", "kim", "ray"})
	switch d.IntN(8) {
	case 0:
		return "undo " + step
	case 1:
		return "redo " + step
	case 2, 3:
		return fmt.Sprintf("change %s:%s:%d:%s", step, by, d.IntN(4), oneOf(d, []string{"2/1", "-1/2", "1000/1", "0 3", "1/0"}))
	case 4:
		return fmt.Sprintf("add +%s:cut:%s:%s:0:%s", step, oneOf(d, []string{carrier, oneOf(d, stepNames())}), by, oneOf(d, []string{"0 3", "2 9", "100 101", "3 2"}))
	}
	return fmt.Sprintf("add +%s:gain:%s:%s:0:%s", step, oneOf(d, []string{carrier, carrier, oneOf(d, stepNames())}), by, oneOf(d, []string{"2/1", "-1/2", "1000/1"}))
}

// someBeginning returns a log that has nothing, little or a lot in it.
func someBeginning(d *rand.Rand) []api.ArchiveEntry {
	return oneOf(d, [][]api.ArchiveEntry{nil, example(), rich(), rich()})
}

// someLog returns a log that was accepted, entry by entry.
func someLog(t *testing.T, d *rand.Rand, tries int) []api.ArchiveEntry {
	t.Helper()
	l := someBeginning(d)
	m := modelOf(t, l)
	for range tries {
		x := someEntry(d, m)
		if next, e := m.enter(house(), x); e == api.OK && len(l) < 60 {
			m, l = next, append(l, x)
		}
	}
	return l
}

// P10.2, P10.9
func TestEntriesAsTheModelDoes(t *testing.T) {
	d := dice(1)
	seen := map[string]int{}
	for range 40 {
		l := someBeginning(d)
		m := modelOf(t, l)
		for range 150 {
			x := someEntry(d, m)
			next, want := m.enter(house(), x)
			if len(l) == 60 {
				next, want = m, api.ErrLarge
			}
			got, e := archive.Accept(house(), l, x)
			seen[strings.SplitN(x.Text, " ", 2)[0]+" "+strconv.Itoa(int(e))]++
			if e != want {
				t.Fatal(l, x, e, want)
			}
			if e == api.OK {
				expect(t, x, shown(got), shown(append(slices.Clone(l), x)))
				m, l = next, got
				expect(t, l, shown(archive.StateOf(house(), l)), shown(m.ArchiveState, api.OK))
			} else {
				expect(t, x, shown(got), shown([]string{}))
			}
		}
		mustBe(t, l)
	}
	for word := range shapes {
		if seen[word+" 0"] == 0 {
			t.Error("never accepted:", word)
		}
	}
}
