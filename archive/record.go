package archive

import (
	"slices"

	"lacquer/api"
)

// record is what the entries of the people of a house lead to.
type record struct {
	people   []api.ArchivePerson
	day      int
	carriers []carrier
	projects []project
	hearings []hearing
}

// carrier also has the samples of the stream of its blocks.
type carrier struct {
	api.ArchiveCarrier
	samples []int
}

type project struct{ api.ArchiveProject }

// hearing also has what was heard, as nothing that happens later changes it.
type hearing struct {
	api.ArchiveHearing
	result
}

// result is the signal of a step, and the names of the sources that the step needs.
type result struct {
	sources []string
	signal  []int
}

// read returns the record of a log, or the error of CheckLog with its index.
func read(h api.ArchiveHouse, l []api.ArchiveEntry) (*record, int, api.Errno) {
	if _, e := CheckHouse(h); e != api.OK {
		return nil, 0, e
	}
	if len(l) > api.MaxArchiveLog {
		return nil, 0, api.ErrLarge
	}
	r := &record{people: h.People}
	i, e := checkItems(len(l), func(i int) api.Errno { return r.enter(l[i]) })
	if e != api.OK {
		return nil, i, e
	}
	return r, 0, api.OK
}

// state gives out the memory of the record, which is not used any more.
func (r *record) state() api.ArchiveState {
	s := api.ArchiveState{Day: r.day}
	for _, c := range r.carriers {
		s.Carriers = append(s.Carriers, c.ArchiveCarrier)
	}
	for _, p := range r.projects {
		s.Projects = append(s.Projects, p.ArchiveProject)
	}
	for _, heard := range r.hearings {
		s.Hearings = append(s.Hearings, heard.ArchiveHearing)
	}
	return s
}

func (r *record) carrierNamed(name string) (*carrier, api.Errno) {
	i := slices.IndexFunc(r.carriers, func(c carrier) bool { return c.Carrier.Name == name })
	if i < 0 {
		return nil, api.ErrMissing
	}
	return &r.carriers[i], api.OK
}

func (r *record) projectNamed(name string) (*project, api.Errno) {
	i := slices.IndexFunc(r.projects, func(p project) bool { return p.Name == name })
	if i < 0 {
		return nil, api.ErrMissing
	}
	return &r.projects[i], api.OK
}
