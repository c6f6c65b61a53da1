package archive

import (
	"slices"

	"lacquer/api"
	"lacquer/transfer"
)

// channel is the one that carriers are transferred by.
const channel = 0

// Embargoed returns the names of all carriers that are under an embargo (P10.4).
func Embargoed(h api.ArchiveHouse, l []api.ArchiveEntry) ([]string, api.Errno) {
	r, _, e := read(h, l)
	if e != api.OK {
		return nil, e
	}
	return r.carriersThat(r.isEmbargoed), api.OK
}

// Overdue returns the names of all carriers that should be back (P10.4).
func Overdue(h api.ArchiveHouse, l []api.ArchiveEntry) ([]string, api.Errno) {
	r, _, e := read(h, l)
	if e != api.OK {
		return nil, e
	}
	return r.carriersThat(r.isOverdue), api.OK
}

// carriersThat returns the names of all carriers that meet a condition.
func (r *record) carriersThat(meets func(carrier) bool) []string {
	var names []string
	for _, c := range r.carriers {
		if meets(c) {
			names = append(names, c.Carrier.Name)
		}
	}
	return names
}

func (r *record) isEmbargoed(c carrier) bool {
	return c.Embargo >= r.day
}

func (r *record) isOverdue(c carrier) bool {
	return c.isLent() && c.Until < r.day
}

func (c carrier) isLent() bool {
	return c.To != ""
}

func (r *record) addCarrier(x request) api.Errno {
	parsed, e := transfer.ParseCarrier(x.words[0])
	if e != api.OK {
		return e
	}
	_, missing := r.carrierNamed(parsed.Name)
	e = firstError(
		when(missing == api.OK, api.ErrExists),
		when(len(r.carriers) >= api.MaxArchiveCarriers, api.ErrFull))
	if e != api.OK {
		return e
	}
	r.carriers = append(r.carriers, carrier{ArchiveCarrier: api.ArchiveCarrier{
		Carrier: parsed, Embargo: api.ArchiveNever, Until: api.ArchiveNever}})
	return api.OK
}

func (r *record) embargo(x request) api.Errno {
	c, e := r.carrierNamed(x.words[0])
	date, dateError := dateIn(x.words[1])
	if e = firstError(e, dateError); e != api.OK {
		return e
	}
	c.Embargo = date
	return api.OK
}

func (r *record) lend(x request) api.Errno {
	c, e := r.carrierNamed(x.words[0])
	date, dateError := dateIn(x.words[2])
	if e = firstError(e, checkName(x.words[1]), dateError); e != api.OK {
		return e
	}
	if e = firstError(when(date < r.day, api.ErrLate), when(c.isLent(), api.ErrBusy)); e != api.OK {
		return e
	}
	c.To, c.Until = x.words[1], date
	return api.OK
}

func (r *record) takeBack(x request) api.Errno {
	c, e := r.carrierNamed(x.words[0])
	if e != api.OK {
		return e
	}
	if !c.isLent() {
		return api.ErrState
	}
	c.To, c.Until = "", api.ArchiveNever
	return api.OK
}

func (r *record) addBlock(x request) api.Errno {
	c, e := r.carrierNamed(x.words[0])
	if e != api.OK {
		return e
	}
	block, blockError := transfer.ParseBlock(x.words[1])
	e = firstError(
		when(c.isLent(), api.ErrBusy),
		blockError,
		when(block.Channel != channel, api.ErrForm),
		when(len(c.Blocks) >= api.MaxArchiveBlocks, api.ErrFull))
	if e != api.OK {
		return e
	}
	blocks := append(slices.Clone(c.Blocks), block)
	stream, e := transfer.StreamOf(blocks, channel)
	if e != api.OK {
		return e
	}
	c.Blocks, c.samples = blocks, stream.Samples
	return api.OK
}
