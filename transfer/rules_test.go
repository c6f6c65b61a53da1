package transfer_test

import (
	"slices"
	"testing"

	"lacquer/api"
	"lacquer/transfer"
)

// R3: arguments are not modified, and results do not share memory with them.
func TestSignalsAndBlocksAreNotShared(t *testing.T) {
	x := numbers(1, 20, -32767, 32767)
	kept := slices.Clone(x)
	l := blocksOf(t, x, 0, 5)
	first := slices.Clone(l)
	l[0].Samples[0]++
	wantList(t, "signal", x, kept)
	wantList(t, "blocks", blocksOf(t, x, 0, 5), first)

	shuffled := []api.TransferBlock{first[2], first[0], first[2]}
	before := slices.Clone(shuffled)
	for range 2 {
		s, e := transfer.StreamOf(shuffled, 0)
		if e != api.OK || len(s.Samples) != 24 || len(s.Gaps) != 1 || s.Samples[8] != 0 {
			t.Fatal(s, e)
		}
		s.Samples[0], s.Samples[8], s.Gaps[0] = 1, 1, api.Range{}
		m, e := transfer.MissingOf(shuffled, 0)
		wantError(t, "missing", e, api.OK)
		wantList(t, "missing", m, []int{6})
		m[0] = 9
		k, e := transfer.KindsOf(shuffled)
		wantError(t, "kinds", e, api.OK)
		wantList(t, "kinds", k, []int{api.TransferNew, api.TransferNew, api.TransferRepeated})
		k[0] = 9
		wantList(t, "blocks", shuffled, before)
	}
}

// R3
func TestBitsAreNotShared(t *testing.T) {
	x := [8]int{3, 4, 5, 6, 7, 8, 9, 10}
	a, _ := transfer.PackedOf(x)
	kept := slices.Clone(a)
	if y, e := transfer.Unpacked(a); e != api.OK || y != x {
		t.Error(y, e)
	}
	wantList(t, "unpacked", a, kept)
	a[0] = 7
	b, _ := transfer.PackedOf(x)
	wantList(t, "packed", b, kept)
}

// R3
func TestGroupsAreNotShared(t *testing.T) {
	data := someData(2, 4)
	keptData := slices.Clone(data)
	parity := paritiesOf(t, data, 3)
	keptParity := slices.Clone(parity)
	for _, lost := range [][]int{nil, {1, 2}} {
		g := damaged(data, parity, lost, nil)
		before := damaged(data, parity, lost, nil)
		for range 2 {
			wantError(t, lost, transfer.CheckGroup(g), api.OK)
			got, e := transfer.Restored(g)
			wantError(t, lost, e, api.OK)
			wantList(t, lost, got, keptData)
			for i := range got {
				got[i] = [8]int{9, 9}
			}
			wantList(t, "data", g.Data, before.Data)
			wantList(t, "parity", g.Parity, before.Parity)
			wantList(t, "lost", g.LostData, lost)
		}
	}
	again := paritiesOf(t, data, 3)
	again[0][0]++
	wantList(t, "data of parities", data, keptData)
	wantList(t, "parities", paritiesOf(t, data, 3), keptParity)
}

// R5
func TestNilAndEmptyAreEqual(t *testing.T) {
	for _, l := range [][]api.TransferBlock{nil, {}} {
		k, e := transfer.KindsOf(l)
		wantError(t, "kinds", e, api.OK)
		wantList(t, "kinds", k, nil)
		wantStreamError(t, "stream", l, 0, api.ErrNone)
	}
	for _, x := range [][]int{nil, {}} {
		wantList(t, "blocks", blocksOf(t, x, 0, 0), nil)
		wantNotUnpacked(t, "bits", x, api.ErrShape)
	}
	for _, data := range [][][8]int{nil, {}} {
		_, e := transfer.ParityOf(data, 1)
		wantError(t, "parity", e, api.ErrShape)
		wantError(t, "group", transfer.CheckGroup(api.TransferGroup{Data: data, Parity: [][8]int{{}}}), api.ErrShape)
		wantError(t, "group", transfer.CheckGroup(api.TransferGroup{Data: [][8]int{{}}, Parity: data}), api.ErrShape)
	}
	for _, lost := range [][]int{nil, {}} {
		data := someData(1, 2)
		got, e := transfer.Restored(api.TransferGroup{Data: data, Parity: paritiesOf(t, data, 1), LostData: lost, LostParity: lost})
		wantError(t, "restored", e, api.OK)
		wantList(t, "restored", got, data)
	}
}
