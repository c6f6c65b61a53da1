package archive_test

import (
	"slices"
	"testing"

	"lacquer/api"
	"lacquer/archive"
	"lacquer/transfer"
)

// P10.2
func TestCarrier(t *testing.T) {
	six := entries("kim: carrier a disc 1 78/1", "kim: carrier b disc 2 100/3", "kim: carrier c tape 1 19/1", "kim: carrier d cylinder 1 160/1", "kim: carrier e disc 1 45/1")
	s := stateOf(t, six)
	want := []api.TransferCarrier{
		{Name: "a", Kind: api.TransferDisc, Sides: 1, Speed: api.Frac{Num: 78, Den: 1}}, {Name: "b", Kind: api.TransferDisc, Sides: 2, Speed: api.Frac{Num: 100, Den: 3}}, {Name: "c", Kind: api.TransferTape, Sides: 1, Speed: api.Frac{Num: 19, Den: 1}},
		{Name: "d", Kind: api.TransferCylinder, Sides: 1, Speed: api.Frac{Num: 160, Den: 1}}, {Name: "e", Kind: api.TransferDisc, Sides: 1, Speed: api.Frac{Num: 45, Den: 1}},
	}
	for i, c := range s.Carriers {
		expect(t, want[i], shown(c), shown(api.ArchiveCarrier{Carrier: want[i], Embargo: -1, Until: -1}))
	}
	expect(t, "number", shown(len(s.Carriers)), shown(5))
	expectEntries(t, six, []outcome{
		{"kim: carrier f disc 1 78/1", api.OK}, {"kim: carrier A disc 1 78/1", api.OK}, {"kim: carrier a disc 1 78/1", api.ErrExists}, {"kim: carrier e tape 1 1/1", api.ErrExists},
		{"kim: carrier f", api.ErrSyntax}, {"kim: carrier f disc 1 78", api.ErrSyntax}, {"kim: carrier f disc 1 78/1 ", api.ErrSyntax}, {"kim: carrier f plate 1 78/1", api.ErrSyntax}, {"kim: carrier 7 disc 1 78/1", api.ErrName}, {"kim: carrier f disc 3 78/1", api.ErrRange}, {"kim: carrier f tape 2 78/1", api.ErrForm}, {"kim: carrier f disc 1 78/2", api.ErrForm}, {"kim: carrier f disc 1 0/1", api.ErrRange},
		// Of several errors the first one.
		{"kim: carrier a disc 3 78/1", api.ErrRange},
	})
	six = append(six, entry("kim: carrier f disc 1 78/1"))
	expectEntries(t, six, []outcome{{"kim: carrier g disc 1 78/1", api.ErrFull}, {"kim: carrier f disc 1 78/1", api.ErrExists}, {"kim: carrier a disc 1 78/1", api.ErrExists}, {"kim: carrier g disc 3 78/1", api.ErrRange}})
	for _, name := range rightNames() {
		expectEntries(t, nil, []outcome{{"kim: carrier " + name + " disc 1 78/1", api.OK}})
	}
}

// carrierAt returns a carrier of the state after a log.
func carrierAt(t *testing.T, l []api.ArchiveEntry, index int) api.ArchiveCarrier {
	t.Helper()
	return stateOf(t, l).Carriers[index]
}

// P10.2, P10.4
func TestEmbargo(t *testing.T) {
	two := example("kim: carrier e tape 1 1/1", "tea: day 5")
	expectEntries(t, two, []outcome{
		{"kim: embargo d 5", api.OK}, {"kim: embargo e 100000", api.OK},
		// An embargo until a day that has passed is none.
		{"kim: embargo d 4", api.OK}, {"kim: embargo d 0", api.OK},
		{"kim: embargo x 9", api.ErrMissing}, {"kim: embargo D 9", api.ErrMissing}, {"kim: embargo p 9", api.ErrMissing}, {"kim: embargo x y", api.ErrMissing},
	})
	for _, v := range badDates() {
		expectEntries(t, two, []outcome{{"kim: embargo d " + v.text, v.e}, {"kim: embargo x " + v.text, api.ErrMissing}})
	}
	for _, v := range []struct {
		l    []string
		want []string
	}{
		{nil, nil}, {[]string{"kim: embargo d 4"}, nil}, {[]string{"kim: embargo d 5"}, []string{"d"}}, {[]string{"kim: embargo e 6"}, []string{"e"}}, {[]string{"kim: embargo e 6", "kim: embargo d 9"}, []string{"d", "e"}}, {[]string{"kim: embargo e 6", "kim: embargo d 9", "tea: day 6"}, []string{"d", "e"}}, {[]string{"kim: embargo e 6", "kim: embargo d 9", "tea: day 7"}, []string{"d"}},
		{[]string{"kim: embargo d 9", "tea: day 9"}, []string{"d"}}, {[]string{"kim: embargo d 9", "tea: day 10"}, nil}, {[]string{"kim: embargo d 9", "kim: embargo d 0"}, nil}, {[]string{"kim: embargo d 9", "kim: embargo d 9"}, []string{"d"}}, {[]string{"kim: lend d radio 5", "kim: embargo d 5"}, []string{"d"}},
	} {
		l := append(slices.Clone(two), entries(v.l...)...)
		expect(t, v, shown(archive.Embargoed(house(), l)), shown(v.want, api.OK))
	}
	c := carrierAt(t, append(two, entry("kim: embargo e 100000")), 1)
	expect(t, c, shown(c), shown(api.ArchiveCarrier{Carrier: c.Carrier, Embargo: 100000, Until: -1}))
	// An embargo of the day 0 holds on the day 0.
	expect(t, "day 0", shown(archive.Embargoed(house(), example("kim: embargo d 0"))), shown([]string{"d"}, api.OK))
	expect(t, "nothing", shown(archive.Embargoed(house(), nil)), shown([]string{}, api.OK))
}

// P10.2, P10.4, example 4
func TestLend(t *testing.T) {
	two := example("kim: carrier e tape 1 1/1", "tea: day 5")
	expectEntries(t, two, []outcome{
		{"kim: lend d radio 7", api.OK}, {"kim: lend d radio 5", api.OK}, {"kim: lend e d 100000", api.OK}, {"kim: lend d radio 4", api.ErrLate}, {"kim: lend d radio 0", api.ErrLate}, {"kim: back d", api.ErrState}, {"kim: back x", api.ErrMissing},
		{"kim: lend x radio 7", api.ErrMissing}, {"kim: lend x 7 y", api.ErrMissing}, {"kim: lend d 7 y", api.ErrName}, {"kim: lend d 7 100001", api.ErrName},
	})
	for _, v := range badDates() {
		expectEntries(t, two, []outcome{{"kim: lend d radio " + v.text, v.e}})
	}
	for _, name := range rightNames() {
		expectEntries(t, two, []outcome{{"kim: lend d " + name + " 7", api.OK}})
	}
	for _, name := range wrongNames() {
		if isWord(name) {
			expectEntries(t, two, []outcome{{"kim: lend d " + name + " 7", api.ErrName}})
		}
	}
	lent := append(slices.Clone(two), entry("kim: lend d radio 7"))
	c := carrierAt(t, lent, 0)
	expect(t, c, shown(c.Embargo, c.To, c.Until, len(c.Blocks)), shown(-1, "radio", 7, 1))
	expectEntries(t, lent, []outcome{
		{"kim: lend d radio 7", api.ErrBusy}, {"kim: lend d museum 9", api.ErrBusy}, {"kim: lend d museum 4", api.ErrLate}, {"kim: lend d museum x", api.ErrForm}, {"kim: lend d 9 9", api.ErrName}, {"kim: lend e radio 7", api.OK}, {"kim: back d", api.OK}, {"kim: back e", api.ErrState},
		{"tea: block d " + block(1), api.ErrBusy}, {"tea: block d x", api.ErrBusy}, {"tea: block e " + block(1), api.OK}, {"tea: block x " + block(1), api.ErrMissing},
		// A carrier that is lent may be heard in a project.
		{"ray: project q d", api.OK}, {"lee: hear p loud", api.OK}, {"kim: embargo d 9", api.OK},
	})
	back := append(slices.Clone(lent), entry("kim: back d"))
	c = carrierAt(t, back, 0)
	expect(t, c, shown(c.Embargo, c.To, c.Until, len(c.Blocks)), shown(-1, "", -1, 1))
	expectEntries(t, back, []outcome{{"kim: back d", api.ErrState}, {"kim: lend d museum 9", api.OK}, {"tea: block d " + block(1), api.OK}})
	for _, v := range []struct {
		l    []string
		want []string
	}{
		{nil, nil}, {[]string{"tea: day 7"}, nil}, {[]string{"tea: day 8"}, []string{"d"}}, {[]string{"kim: lend e museum 8", "tea: day 8"}, []string{"d"}}, {[]string{"kim: lend e museum 8", "tea: day 9"}, []string{"d", "e"}}, {[]string{"kim: lend e museum 6", "tea: day 7"}, []string{"e"}},
		{[]string{"tea: day 8", "kim: back d"}, nil}, {[]string{"tea: day 8", "kim: back d", "kim: lend d radio 8"}, nil}, {[]string{"kim: embargo d 100", "tea: day 100000"}, []string{"d"}},
	} {
		l := append(slices.Clone(lent), entries(v.l...)...)
		expect(t, v, shown(archive.Overdue(house(), l)), shown(v.want, api.OK))
	}
	expect(t, "nothing", shown(archive.Overdue(house(), nil)), shown([]string{}, api.OK))
	expect(t, "not lent", shown(archive.Overdue(house(), two)), shown([]string{}, api.OK))
}

// P10.2
func TestBlock(t *testing.T) {
	l := example("kim: carrier e tape 1 1/1")
	torn := "3 0 1 0 0 0 0 0 0 0 7"
	expectEntries(t, l, []outcome{
		{"tea: block d " + block(1), api.OK}, {"tea: block e " + block(65535, 32767, -32767), api.OK}, {"tea: block d " + block(60), api.ErrLarge}, {"tea: block d " + block(59), api.OK}, {"tea: block d " + block(65535), api.ErrLarge},
		// A block that is repeated or contradictory counts.
		{"tea: block d " + block(0, 1, 2, 3, 4, 5, 6, 7, 8), api.OK}, {"tea: block d " + block(0, 1), api.OK},
		{"tea: block x " + block(1), api.ErrMissing}, {"tea: block d x", api.ErrSyntax}, {"tea: block d " + block(1) + " ", api.ErrSyntax}, {"tea: block d " + torn, api.ErrSum}, {"tea: block d " + blockOf(1, 4), api.ErrRange}, {"tea: block d " + block(65536), api.ErrRange}, {"tea: block d " + block(1, 32768), api.ErrRange},
		{"tea: block d " + blockOf(1, 1), api.ErrForm}, {"tea: block d " + blockOf(1, 3), api.ErrForm}, {"tea: block d " + blockOf(60, 2), api.ErrForm},
	})
	for i := range 9 {
		l = append(l, entry("tea: block d "+block(i/2, i)))
	}
	mustBe(t, l)
	expectEntries(t, l, []outcome{
		{"tea: block d " + block(0), api.ErrFull}, {"tea: block d " + block(9), api.ErrFull}, {"tea: block d " + block(60), api.ErrFull}, {"tea: block d " + blockOf(1, 1), api.ErrForm}, {"tea: block d " + torn, api.ErrSum}, {"tea: block e " + block(9), api.OK},
	})
	expectEntries(t, append(l, entry("kim: lend d radio 7")), []outcome{{"tea: block d " + block(9), api.ErrBusy}, {"tea: block d " + blockOf(1, 1), api.ErrBusy}})
	s := stateOf(t, l)
	expect(t, "numbers", shown(len(s.Carriers[0].Blocks), len(s.Carriers[1].Blocks)), shown(10, 0))
	for i, b := range s.Carriers[0].Blocks[1:] {
		want, e := transfer.ParseBlock(block(i/2, i))
		expect(t, i, shown(b, api.OK), shown(want, e))
	}
}

// P10.2: a project has the stream of the blocks, wherever they come from.
func TestStreams(t *testing.T) {
	for _, v := range []struct {
		blocks []string
		want   []int
	}{
		{[]string{block(7, 1, 2)}, []int{1, 2, 0, 0, 0, 0, 0, 0}},
		{[]string{block(8, 3), block(7, 1)}, []int{1, 0, 0, 0, 0, 0, 0, 0, 3, 0, 0, 0, 0, 0, 0, 0}},
		{[]string{block(9, 3), block(7, 1)}, []int{1, 0, 0, 0, 0, 0, 0, 0, 0, 0, 0, 0, 0, 0, 0, 0, 3, 0, 0, 0, 0, 0, 0, 0}},
		{[]string{block(7, 1), block(7, 1), block(7, 2)}, []int{1, 0, 0, 0, 0, 0, 0, 0}},
	} {
		l := entries("kim: carrier d disc 1 78/1")
		for _, b := range v.blocks {
			l = append(l, entry("tea: block d "+b))
		}
		l = append(l, entry("ray: project p d"))
		expect(t, v, shown(stateOf(t, l).Projects[0].Sources), shown([]api.SessionSource{{Name: "d", Signal: v.want}}))
		expect(t, v, shown(len(stateOf(t, l).Carriers[0].Blocks)), shown(len(v.blocks)))
	}
}

// P10.2: the limit of the samples of a source
func TestLongStreams(t *testing.T) {
	for span := 30; span <= 35; span++ {
		l := entries("kim: carrier d disc 1 78/1", "kim: carrier e disc 1 78/1", "tea: block d "+block(0, 1), "tea: block d "+block(span-1, 2), "tea: block e "+block(0, 1))
		want := api.OK
		if span > 32 {
			want = api.ErrLarge
		}
		expectEntries(t, l, []outcome{{"ray: project p d", want}, {"ray: project p e,d", want}, {"ray: project p e", api.OK}, {"ray: project p x,d", api.ErrMissing}})
		if want == api.OK {
			s := stateOf(t, append(l, entry("ray: project p d")))
			expect(t, span, shown(len(s.Projects[0].Sources[0].Signal)), shown(8*span))
			expectEntries(t, l, []outcome{{"ray: project p d,d", api.ErrDouble}})
		} else {
			expectEntries(t, l, []outcome{{"ray: project p d,d", api.ErrLarge}, {"ray: project p d,x", api.ErrLarge}, {"ray: project p e,e,d", api.ErrDouble}})
		}
	}
}
