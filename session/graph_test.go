package session_test

import (
	"slices"
	"strings"
	"testing"

	"lacquer/api"
	"lacquer/session"
)

// diamond is steps of which some come before what they need, and some are not active.
func diamond() []api.SessionStep {
	return steps("+j:join:m,k,a,m:ann:1:2,0 0 0", "+k:gain:n:ann:2:1/1", "+l:gain:b:ann:3:1/1", "+m:gain:n:ann:0:1/1", "+n:gain:a:ann:2:1/1", "-o:join:j,p:ann:1:2,0 0 0", "-p:gain:b:ann:3:1/1", "-q:gain:l:ann:0:1/1")
}

func graphs() [][]api.SessionStep {
	chain := steps(loud, part)
	long := named(16)
	for i := 1; i < 16; i++ {
		long[i].Inputs = []string{long[i-1].Name}
	}
	return [][]api.SessionStep{nil, chain, long, named(16), diamond()}
}

func allNames(l []api.SessionStep) []string {
	names := []string{"a", "b", "c", "", "A", "zz"}
	for _, x := range l {
		names = append(names, x.Name)
	}
	return names
}

func wantNames(l []api.SessionStep, holds func(api.SessionStep) bool) []string {
	names := []string{}
	for _, x := range l {
		if holds(x) {
			names = append(names, x.Name)
		}
	}
	return names
}

// compareGraph compares what is said of a name with the document's definitions.
func compareGraph(t *testing.T, l []api.SessionStep, name string) {
	t.Helper()
	x, isStep := stepOf(l, name)
	needs, users, most := needed(l, name), wantNames(l, func(x api.SessionStep) bool { return x.Active && needed(l, x.Name)[name] }), x.Doubt
	for _, other := range l {
		if needs[other.Name] {
			most = max(most, other.Doubt)
		}
	}
	wantNeeds := shown(wantNames(l, func(x api.SessionStep) bool { return needs[x.Name] }), api.OK)
	wantDoubt := shown(most, wantNames(l, func(x api.SessionStep) bool { return x.Doubt == most && (x.Name == name || needs[x.Name]) }), api.OK)
	wantUsers := shown(users, api.OK)
	if !isStep {
		wantNeeds, wantDoubt = shown([]string{}, api.ErrMissing), shown(0, []string{}, api.ErrMissing)
	}
	if !isStep && name != "a" && name != "b" {
		wantUsers = shown([]string{}, api.ErrMissing)
	}
	expect(t, name, shown(session.NeededBy(example(), l, name)), wantNeeds)
	expect(t, name, shown(session.DoubtOf(example(), l, name)), wantDoubt)
	expect(t, name, shown(session.UsersOf(example(), l, name)), wantUsers)
}

// P8.3: graphs are compared with the definitions
func TestGraphs(t *testing.T) {
	d := dice(5)
	l := graphs()
	for range 300 {
		l = append(l, someSteps(d))
	}
	for _, x := range l {
		for _, name := range allNames(x) {
			compareGraph(t, x, name)
		}
		active := []api.SessionStep{}
		for _, step := range x {
			if step.Active {
				active = append(active, step)
			}
		}
		expect(t, x, shown(session.Essence(example(), x)), shown(active, api.OK))
	}
}

// P8.3, examples 2, 7
func TestGraphOfTheExample(t *testing.T) {
	l := steps(loud, part)
	expect(t, "users", shown(session.UsersOf(example(), l, "a")), shown([]string{"loud", "part"}, api.OK))
	expect(t, "users", shown(session.UsersOf(example(), l, "b")), shown([]string{}, api.OK))
	expect(t, "users", shown(session.UsersOf(example(), l, "part")), shown([]string{}, api.OK))
	expect(t, "needed", shown(session.NeededBy(example(), l, "part")), shown([]string{"loud"}, api.OK))
	expect(t, "needed", shown(session.NeededBy(example(), l, "loud")), shown([]string{}, api.OK))
	expect(t, "needed", shown(session.NeededBy(example(), l, "a")), shown([]string{}, api.ErrMissing))
	expect(t, "order", shown(session.OrderOf(example(), l)), shown([]string{"loud", "part"}, api.OK))
	expect(t, "plan", shown(session.UndoPlan(example(), l, "loud")), shown([]string{"part", "loud"}, api.OK))
	expect(t, "plan", shown(session.UndoPlan(example(), l, "part")), shown([]string{"part"}, api.OK))
	expect(t, "plan", shown(session.UndoPlan(example(), l, "a")), shown([]string{}, api.ErrMissing))
	expect(t, "plan", shown(session.UndoPlan(example(), steps(loud, "-part:cut:loud:ann:0:1 2"), "part")), shown([]string{}, api.ErrState))
	expect(t, "doubt", shown(session.DoubtOf(example(), l, "part")), shown(2, []string{"part"}, api.OK))
	x := diamond()
	expect(t, "order", shown(session.OrderOf(example(), x)), shown([]string{"l", "n", "k", "m", "j"}, api.OK))
	expect(t, "plan", shown(session.UndoPlan(example(), x, "n")), shown([]string{"j", "m", "k", "n"}, api.OK))
	expect(t, "needed", shown(session.NeededBy(example(), x, "o")), shown([]string{"j", "k", "m", "n", "p"}, api.OK))
	expect(t, "users", shown(session.UsersOf(example(), x, "b")), shown([]string{"l"}, api.OK))
	expect(t, "doubt", shown(session.DoubtOf(example(), x, "j")), shown(2, []string{"k", "n"}, api.OK))
	expect(t, "doubt", shown(session.DoubtOf(example(), x, "o")), shown(3, []string{"p"}, api.OK))
}

// bestOrder is the lexicographically first of all orders of names in which each one comes after all that it needs.
func bestOrder(l []api.SessionStep, names []string) []string {
	best := []string{}
	var extend func(order []string)
	extend = func(order []string) {
		if len(order) == len(names) && (len(best) == 0 || slices.Compare(order, best) < 0) {
			best = slices.Clone(order)
		}
		for _, name := range names {
			isNext := !slices.Contains(order, name)
			for _, other := range names {
				isNext = isNext && (slices.Contains(order, other) || !needed(l, name)[other])
			}
			if isNext {
				extend(append(order[:len(order):len(order)], name))
			}
		}
	}
	extend(nil)
	return best
}

// P8.3, P8.9, P8.13: orders are compared with all orders, plans with all ways to undo a step
func TestOrdersAndPlans(t *testing.T) {
	d := dice(6)
	for range 150 {
		l := someSteps(d)
		order := bestOrder(l, wantNames(l, func(x api.SessionStep) bool { return x.Active }))
		expect(t, l, shown(session.OrderOf(example(), l)), shown(order, api.OK))
		for _, x := range l {
			plan := []string{}
			for _, name := range order {
				if name == x.Name || needed(l, name)[x.Name] {
					plan = append([]string{name}, plan...)
				}
			}
			if !x.Active {
				expect(t, l, shown(session.UndoPlan(example(), l, x.Name)), shown([]string{}, api.ErrState))
				continue
			}
			expect(t, l, shown(session.UndoPlan(example(), l, x.Name)), shown(plan, api.OK))
			checkPlan(t, l, plan)
		}
	}
}

// checkPlan expects that a plan is accepted, and that there is no way to undo its last step without all of the others.
func checkPlan(t *testing.T, l []api.SessionStep, plan []string) {
	t.Helper()
	now := l
	for _, name := range plan {
		next, e := session.Apply(example(), now, event("undo "+name))
		if e != api.OK {
			t.Errorf("%s: %v of %v: %v", brief(l), name, plan, e)
			return
		}
		now = next
	}
	for _, left := range plan[:len(plan)-1] {
		// Everything else is undone, as far as this is permitted.
		now := l
		for changed := true; changed; {
			changed = false
			for _, x := range now {
				next, e := session.Apply(example(), now, event("undo "+x.Name))
				if e == api.OK && x.Name != left {
					now, changed = next, true
					break
				}
			}
		}
		if x, _ := stepOf(now, plan[len(plan)-1]); !x.Active {
			t.Errorf("%s: %v is not needed in %v", brief(l), left, plan)
		}
	}
}

// The errors of the arguments of all functions of sources and steps (P8.2 to P8.4)
func TestErrorsOfSourcesAndSteps(t *testing.T) {
	calls := func(s []api.SessionSource, l []api.SessionStep) []string {
		var results []string
		add := func(what, got, none string, e api.Errno) {
			if !strings.HasPrefix(got, none) {
				results = append(results, what+got)
			}
			results = append(results, shown(e))
		}
		for _, name := range []string{"loud", "nothing", ""} {
			x, e := session.NeededBy(s, l, name)
			add("needed", shown(x), "[[]]", e)
			x, e = session.UsersOf(s, l, name)
			add("users", shown(x), "[[]]", e)
			x, e = session.UndoPlan(s, l, name)
			add("plan", shown(x), "[[]]", e)
			n, x, e := session.DoubtOf(s, l, name)
			add("doubt", shown(n, x), "[0 []]", e)
			y, e := session.Render(s, l, name)
			add("render", shown(y), "[[]]", e)
		}
		x, e := session.OrderOf(s, l)
		add("order", shown(x), "[[]]", e)
		y, e := session.Essence(s, l)
		add("essence", shown(y), "[[]]", e)
		z, e := session.RenderAll(s, l)
		add("results", shown(z), "[[]]", e)
		p, e := session.Possible(s, l)
		add("possible", shown(p), "[[]]", e)
		for _, v := range []string{"undo loud", "add " + loud, "undo "} {
			y, e = session.Apply(s, l, event(v))
			add("apply", shown(y), "[[]]", e)
		}
		return results
	}
	check := func(what any, results []string, e api.Errno) {
		for _, result := range results {
			expect(t, what, result, shown(e))
		}
	}
	for _, x := range sourcesWithErrors() {
		check(x, calls(x.l, nil), x.e)
		check(x, calls(x.l, steps(part, loud)), x.e)
	}
	for _, x := range stepsWithErrors() {
		check(x, calls(example(), x.l), x.e)
	}
	for _, x := range eventsWithErrors() {
		expect(t, x, shown(session.Apply(example(), steps(loud, part), x.x)), shown([]api.SessionStep{}, x.e))
	}
}
