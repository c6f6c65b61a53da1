package archive

import (
	"slices"

	"lacquer/api"
	"lacquer/session"
)

// SourcesOf returns the names of the sources of a step (P10.5).
func SourcesOf(h api.ArchiveHouse, l []api.ArchiveEntry, x api.ArchiveResult) ([]string, api.Errno) {
	r, _, e := read(h, l)
	if e != api.OK {
		return nil, e
	}
	p, e := r.projectNamed(x.Project)
	if e != api.OK {
		return nil, e
	}
	return p.sourcesOf(x.Step)
}

// Rendered returns the signal of a step (P10.5).
func Rendered(h api.ArchiveHouse, l []api.ArchiveEntry, x api.ArchiveResult) ([]int, api.Errno) {
	r, _, e := read(h, l)
	if e != api.OK {
		return nil, e
	}
	y, e := r.resultOf(x)
	return y.signal, e
}

// HeardAgain returns the signal of a hearing, as it was heard (P10.5).
func HeardAgain(h api.ArchiveHouse, l []api.ArchiveEntry, hearing int) ([]int, api.Errno) {
	r, _, e := read(h, l)
	if e != api.OK {
		return nil, e
	}
	if hearing < 0 || hearing >= len(r.hearings) {
		return nil, api.ErrMissing
	}
	heard := r.hearings[hearing]
	if e := r.checkPermitted(heard.sources); e != api.OK {
		return nil, e
	}
	return heard.signal, api.OK
}

// resultOf returns what a step results in, if nobody is to be kept from hearing it.
func (r *record) resultOf(x api.ArchiveResult) (result, api.Errno) {
	p, e := r.projectNamed(x.Project)
	if e != api.OK {
		return result{}, e
	}
	sources, e := p.sourcesOf(x.Step)
	if e = firstError(e, r.checkPermitted(sources)); e != api.OK {
		return result{}, e
	}
	signal, e := session.Render(p.Sources, p.Steps, x.Step)
	if e != api.OK {
		return result{}, e
	}
	return result{sources: sources, signal: signal}, api.OK
}

// sourcesOf returns the names of the sources that an active step needs, ascending as the sources do.
func (p *project) sourcesOf(step string) ([]string, api.Errno) {
	i := slices.IndexFunc(p.Steps, func(s api.SessionStep) bool { return s.Name == step })
	if i < 0 {
		return nil, api.ErrMissing
	}
	if !p.Steps[i].Active {
		return nil, api.ErrState
	}
	var names []string
	for _, source := range p.Sources {
		users, e := session.UsersOf(p.Sources, p.Steps, source.Name)
		if e != api.OK {
			return nil, e
		}
		if slices.Contains(users, step) {
			names = append(names, source.Name)
		}
	}
	return names, api.OK
}

// checkPermitted returns the error of a result that needs a carrier under an embargo.
func (r *record) checkPermitted(sources []string) api.Errno {
	isForbidden := func(name string) bool { return slices.Contains(sources, name) }
	return when(slices.ContainsFunc(r.carriersThat(r.isEmbargoed), isForbidden), api.ErrRefused)
}

func (r *record) hear(x request) api.Errno {
	return r.addHearing(x, "")
}

func (r *record) deliver(x request) api.Errno {
	_, e := r.projectNamed(x.words[0])
	if e = firstError(e, checkName(x.words[2])); e != api.OK {
		return e
	}
	return r.addHearing(x, x.words[2])
}

// addHearing adds the hearing of an entry, whose words begin with a project and a step.
func (r *record) addHearing(x request, to string) api.Errno {
	heard, e := r.resultOf(api.ArchiveResult{Project: x.words[0], Step: x.words[1]})
	if e = firstError(e, when(len(r.hearings) >= api.MaxArchiveHearings, api.ErrFull)); e != api.OK {
		return e
	}
	r.hearings = append(r.hearings, hearing{
		ArchiveHearing: api.ArchiveHearing{
			Day: r.day, Project: x.words[0], Step: x.words[1], To: to, By: x.by, Sum: sumOfSamples(heard.signal)},
		result: heard})
	return api.OK
}
