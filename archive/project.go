package archive

import (
	"cmp"
	"slices"
	"strings"

	"lacquer/api"
	"lacquer/listen"
	"lacquer/session"
)

func (r *record) addProject(x request) api.Errno {
	name := x.words[0]
	_, missing := r.projectNamed(name)
	e := firstError(
		checkName(name),
		when(missing == api.OK, api.ErrExists),
		when(len(r.projects) >= api.MaxArchiveProjects, api.ErrFull))
	if e != api.OK {
		return e
	}
	sources, e := r.sourcesFrom(strings.Split(x.words[1], ","))
	if e != api.OK {
		return e
	}
	r.projects = append(r.projects, project{api.ArchiveProject{Name: name, Sources: sources}})
	return api.OK
}

// sourcesFrom returns the carriers of these names, as they are now, as sources of a session.
func (r *record) sourcesFrom(names []string) ([]api.SessionSource, api.Errno) {
	var sources []api.SessionSource
	for i, name := range names {
		c, e := r.carrierNamed(name)
		if e != api.OK {
			return nil, e
		}
		e = firstError(
			when(slices.Contains(names[:i], name), api.ErrDouble),
			when(len(c.Blocks) == 0, api.ErrNone),
			when(len(c.samples) > api.MaxSessionSignal, api.ErrLarge))
		if e != api.OK {
			return nil, e
		}
		sources = append(sources, api.SessionSource{Name: name, Signal: slices.Clone(c.samples)})
	}
	if len(sources) > api.MaxSessionSources {
		return nil, api.ErrLarge
	}
	slices.SortFunc(sources, func(a, b api.SessionSource) int { return cmp.Compare(a.Name, b.Name) })
	return sources, api.OK
}

func (r *record) changeSteps(x request) api.Errno {
	p, e := r.projectNamed(x.words[0])
	event, eventError := session.ParseEvent(x.words[1])
	if e = firstError(e, eventError, checkDecision(event, x.by)); e != api.OK {
		return e
	}
	steps, e := session.Apply(p.Sources, p.Steps, event)
	if e != api.OK {
		return e
	}
	p.Steps = steps
	return api.OK
}

// checkDecision returns the error of somebody who decides in the name of another person.
func checkDecision(event api.SessionEvent, by string) api.Errno {
	decides := event.Kind == api.SessionAdd || event.Kind == api.SessionChange
	return when(decides && event.Step.By != by, api.ErrClash)
}

func (r *record) beginTest(x request) api.Errno {
	p, e := r.projectNamed(x.words[0])
	if e != api.OK {
		return e
	}
	hidden, ok := hiddenIn(x.words[1])
	if !ok {
		return api.ErrSyntax
	}
	rules := api.ListenRules{Hidden: hidden}
	state, e := listen.Begin(rules)
	isOpen := len(p.Listen.Answers) < len(p.Test.Hidden)
	if e = firstError(e, when(isOpen, api.ErrBusy)); e != api.OK {
		return e
	}
	p.Test, p.Listen = rules, state
	return api.OK
}

// hiddenIn returns the digits 0 and 1 of a text that consists of nothing else.
func hiddenIn(text string) ([]int, bool) {
	var hidden []int
	for i := range len(text) {
		if text[i] != '0' && text[i] != '1' {
			return nil, false
		}
		hidden = append(hidden, int(text[i]-'0'))
	}
	return hidden, len(hidden) > 0
}

func (p *project) hasTest() bool {
	return len(p.Test.Hidden) > 0
}

func (r *record) listenTo(x request) api.Errno {
	p, e := r.projectNamed(x.words[0])
	if e != api.OK {
		return e
	}
	event, eventError := listen.ParseEvent(x.words[1])
	if e = firstError(when(!p.hasTest(), api.ErrNone), eventError); e != api.OK {
		return e
	}
	state, e := listen.Apply(p.Test, p.Listen, event)
	if e != api.OK {
		return e
	}
	p.Listen = state
	return api.OK
}

// activeSteps returns the names of all active steps, ascending as the steps do.
func (p *project) activeSteps() []string {
	var names []string
	for _, step := range p.Steps {
		if step.Active {
			names = append(names, step.Name)
		}
	}
	return names
}
