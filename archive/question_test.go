package archive_test

import (
	"slices"
	"strconv"
	"strings"
	"testing"

	"lacquer/api"
	"lacquer/archive"
)

// P10.7, example 6
func TestReport(t *testing.T) {
	l := rich("ray: step p undo both", "lee: hear p loud", "kim: deliver q a radio", "lee: hear q a", "tea: day 5", "kim: lend d radio 7", "kim: embargo c 5", "kim: embargo d 4")
	for _, v := range []struct {
		l    []api.ArchiveEntry
		want string
	}{
		{nil, "day 0\nheard 0 0\n"}, {example(), "day 0\ncarrier d 1 here\nproject p 1 1\nheard 0 0\n"}, {entries("tea: day 100000", "kim: carrier d disc 1 78/1"), "day 100000\ncarrier d 0 here\nheard 0 0\n"},
		{rich(), "day 0\ncarrier d 2 here\ncarrier c 1 here\ncarrier e 0 here\nproject p 4 3\nproject q 1 1\nheard 0 0\n"},
		{l, "day 5\ncarrier d 2 lent\ncarrier c 1 embargo\ncarrier e 0 here\nproject p 4 2\nproject q 1 1\nheard 2 1\n"},
		{append(slices.Clone(l), entry("kim: embargo d 5")), "day 5\ncarrier d 2 embargo\ncarrier c 1 embargo\ncarrier e 0 here\nproject p 4 2\nproject q 1 1\nheard 2 1\n"},
		{append(slices.Clone(l), entry("tea: day 6"), entry("kim: back d")), "day 6\ncarrier d 2 here\ncarrier c 1 here\ncarrier e 0 here\nproject p 4 2\nproject q 1 1\nheard 2 1\n"},
	} {
		expect(t, v, shown(archive.Report(house(), v.l)), shown(v.want, api.OK))
	}
}

// reportOf is the definition of the report.
func reportOf(m model) string {
	s := "day " + strconv.Itoa(m.Day) + "\n"
	for _, c := range m.Carriers {
		where := "here"
		if c.Until >= 0 {
			where = "lent"
		}
		if m.Day <= c.Embargo {
			where = "embargo"
		}
		s += "carrier " + c.Carrier.Name + " " + strconv.Itoa(len(c.Blocks)) + " " + where + "\n"
	}
	for _, p := range m.Projects {
		active := 0
		for _, step := range p.Steps {
			active += btoi(step.Active)
		}
		s += "project " + p.Name + " " + strconv.Itoa(len(p.Steps)) + " " + strconv.Itoa(active) + "\n"
	}
	heard := 0
	for _, x := range m.Hearings {
		heard += btoi(x.To == "")
	}
	return s + "heard " + strconv.Itoa(heard) + " " + strconv.Itoa(len(m.Hearings)-heard) + "\n"
}

// question is a question with its answer or its error.
type question struct {
	text, want string
	e          api.Errno
}

// P10.7, example 7
func TestAsk(t *testing.T) {
	l := rich("tea: day 5", "kim: lend e radio 6", "kim: lend d radio 5", "tea: day 7", "kim: embargo c 7", "kim: embargo e 9", "ray: test p 01", "lee: listen p play 0", "lee: listen p play 1", "lee: listen p play 2", "lee: listen p answer 0")
	questions := []question{
		{"day", "7", api.OK}, {"carriers", "d c e", api.OK}, {"projects", "p q", api.OK}, {"embargoed", "c e", api.OK}, {"overdue", "d e", api.OK}, {"steps p", "both loud soft", api.OK}, {"steps q", "a", api.OK}, {"score p", "1 1", api.OK}, {"count", strconv.Itoa(len(l)), api.OK},
		{"steps x", "", api.ErrMissing}, {"sum x loud", "", api.ErrMissing}, {"score x", "", api.ErrMissing}, {"score q", "", api.ErrNone}, {"steps d", "", api.ErrMissing}, {"steps P", "", api.ErrMissing},
		{"sum p x", "", api.ErrMissing}, {"sum p none", "", api.ErrState}, {"sum p soft", "", api.ErrRefused}, {"sum p both", "", api.ErrRefused}, {"sum q loud", "", api.ErrMissing},
		{"", "", api.ErrSyntax}, {" ", "", api.ErrSyntax}, {"sing", "", api.ErrSyntax}, {"Day", "", api.ErrSyntax}, {"days", "", api.ErrSyntax}, {"day\n", "", api.ErrSyntax}, {"day ", "", api.ErrSyntax}, {" day", "", api.ErrSyntax}, {"day 7", "", api.ErrSyntax}, {"day  ", "", api.ErrSyntax},
		{"carrier", "", api.ErrSyntax}, {"carriers d", "", api.ErrSyntax}, {"carriers ", "", api.ErrSyntax}, {"projects p", "", api.ErrSyntax}, {"projects ", "", api.ErrSyntax}, {"embargoed c", "", api.ErrSyntax}, {"overdue ", "", api.ErrSyntax}, {"count 7", "", api.ErrSyntax}, {"count ", "", api.ErrSyntax},
		{"steps", "", api.ErrSyntax}, {"steps ", "", api.ErrSyntax}, {"steps p ", "", api.ErrSyntax}, {"steps  p", "", api.ErrSyntax}, {"steps p loud", "", api.ErrSyntax}, {"steps p q", "", api.ErrSyntax},
		{"sum", "", api.ErrSyntax}, {"sum p", "", api.ErrSyntax}, {"sum p ", "", api.ErrSyntax}, {"sum  loud", "", api.ErrSyntax}, {"sum p  loud", "", api.ErrSyntax}, {"sum p loud ", "", api.ErrSyntax}, {"sum p loud soft", "", api.ErrSyntax}, {"sum  ", "", api.ErrSyntax}, {"sum x ", "", api.ErrSyntax},
		{"score", "", api.ErrSyntax}, {"score ", "", api.ErrSyntax}, {"score p ", "", api.ErrSyntax}, {"score p q", "", api.ErrSyntax}, {"score  p", "", api.ErrSyntax},
		{"day\tp", "", api.ErrSyntax}, {"steps\tp", "", api.ErrSyntax}, {strings.Repeat("x ", 100000), "", api.ErrSyntax}, {"steps " + strings.Repeat("x", 100000), "", api.ErrMissing}, {"\x00", "", api.ErrSyntax}, {"steps \xff", "", api.ErrMissing},
	}
	sum, e := archive.SignalSum([]int{2, 4, 6, 0, 0, 0, 0, 0, 8, 0, 0, 0, 0, 0, 0, 0})
	if e != api.OK {
		t.Error(e)
	}
	questions = append(questions, question{"sum p loud", strconv.Itoa(sum), api.OK})
	for _, v := range questions {
		expect(t, v, shown(archive.Ask(house(), l, v.text)), shown(v.want, v.e))
	}
	for _, text := range []string{"carriers", "projects", "embargoed", "overdue"} {
		expect(t, text, shown(archive.Ask(house(), nil, text)), shown("none", api.OK))
	}
	expect(t, "no steps", shown(archive.Ask(house(), example()[:3], "steps p")), shown("none", api.OK))
	expect(t, "no active steps", shown(archive.Ask(house(), example("ray: step p undo loud"), "steps p")), shown("none", api.OK))
	expect(t, "nothing", shown(archive.Ask(house(), nil, "count")), shown("0", api.OK))
	expect(t, "nothing", shown(archive.Ask(house(), nil, "day")), shown("0", api.OK))
	expect(t, "example", shown(archive.Ask(house(), example("ray: test p 01", "lee: listen p play 0"), "score p")), shown("0 0", api.OK))
	loudest := example("ray: step p add +k:gain:d:ray:0:1000/1", "ray: step p add +l:gain:k:ray:0:1000/1")
	expect(t, "broken", shown(archive.Ask(house(), loudest, "sum p l")), shown("", api.ErrBreak))
}

// P10.4, P10.7
func TestAnswersAsTheModelDoes(t *testing.T) {
	d := dice(10)
	listed := func(l []string) string {
		if len(l) == 0 {
			return "none"
		}
		return strings.Join(l, " ")
	}
	for range 40 {
		l := someLog(t, d, 120)
		m := modelOf(t, l)
		var names, projects, embargoed, overdue []string
		for _, c := range m.Carriers {
			names = append(names, c.Carrier.Name)
			if c.Embargo >= m.Day {
				embargoed = append(embargoed, c.Carrier.Name)
			}
			if c.To != "" && c.Until < m.Day {
				overdue = append(overdue, c.Carrier.Name)
			}
		}
		questions := []question{{"day", strconv.Itoa(m.Day), api.OK}, {"carriers", listed(names), api.OK}, {"embargoed", listed(embargoed), api.OK}, {"overdue", listed(overdue), api.OK}, {"count", strconv.Itoa(len(l)), api.OK}}
		for _, p := range m.Projects {
			projects = append(projects, p.Name)
			var active []string
			for _, step := range p.Steps {
				if step.Active {
					active = append(active, step.Name)
				}
			}
			questions = append(questions, question{"steps " + p.Name, listed(active), api.OK})
			score, e := 0, api.OK
			for i, answer := range p.Listen.Answers {
				score += btoi(answer == p.Test.Hidden[i])
			}
			want := strconv.Itoa(score) + " " + strconv.Itoa(len(p.Listen.Answers))
			if len(p.Test.Hidden) == 0 {
				want, e = "", api.ErrNone
			}
			questions = append(questions, question{"score " + p.Name, want, e})
			for _, step := range stepNames() {
				signal, e := m.rendered(p, step)
				want := ""
				if e == api.OK {
					sum, _ := archive.SignalSum(signal)
					want = strconv.Itoa(sum)
				}
				questions = append(questions, question{"sum " + p.Name + " " + step, want, e})
			}
		}
		questions = append(questions, question{"projects", listed(projects), api.OK})
		for _, v := range questions {
			expect(t, v, shown(archive.Ask(house(), l, v.text)), shown(v.want, v.e))
		}
		expect(t, l, shown(archive.Embargoed(house(), l)), shown(embargoed, api.OK))
		expect(t, l, shown(archive.Overdue(house(), l)), shown(overdue, api.OK))
		expect(t, l, shown(archive.Report(house(), l)), shown(reportOf(m), api.OK))
	}
}
