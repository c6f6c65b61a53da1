package transfer_test

import (
	"slices"
	"testing"

	"lacquer/api"
	"lacquer/transfer"
)

// someData returns count blocks of samples.
func someData(seed, count int) [][8]int {
	var data [][8]int
	for i := range count {
		data = append(data, eight(seed*100+i, -32767, 32767))
	}
	return data
}

// inverse finds an inverse by trying.
func inverse(n int) int {
	for m := range prime {
		if m*n%prime == 1 {
			return m
		}
	}
	return 0
}

// subsets returns all ascending lists of numbers below count.
func subsets(count int) [][]int {
	var l [][]int
	for mask := range 1 << count {
		var s []int
		for i := range count {
			if mask>>i&1 == 1 {
				s = append(s, i)
			}
		}
		l = append(l, s)
	}
	return l
}

// damaged returns a group whose lost blocks contain numbers that would be errors.
func damaged(data, parity [][8]int, lostData, lostParity []int) api.TransferGroup {
	g := api.TransferGroup{Data: slices.Clone(data), Parity: slices.Clone(parity), LostData: lostData, LostParity: lostParity}
	for _, i := range lostData {
		g.Data[i] = [8]int{extremes[0], extremes[3], 40000, -1}
	}
	for _, j := range lostParity {
		g.Parity[j] = [8]int{extremes[3], extremes[0], -1, 70000}
	}
	return g
}

// P1.5, example 5
func TestInverseOf(t *testing.T) {
	for _, x := range [][2]int{{1, 1}, {2, 32769}, {4, 49153}, {65536, 65536}, {32769, 2}} {
		if m, e := transfer.InverseOf(x[0]); e != api.OK || m != x[1] {
			t.Error(x, m, e)
		}
	}
	for n := 1; n < prime; n++ {
		m, e := transfer.InverseOf(n)
		if e != api.OK || m < 0 || m >= prime || m*n%prime != 1 {
			t.Fatal(n, m, e)
		}
	}
	for _, x := range append([]int{-1, 65537, 65538, -65536}, extremes...) {
		m, e := transfer.InverseOf(x)
		wantError(t, x, e, api.ErrRange)
		if m != 0 {
			t.Error(x, m)
		}
	}
	m, e := transfer.InverseOf(0)
	wantError(t, 0, e, api.ErrZero)
	if m != 0 {
		t.Error(m)
	}
}

// P1.5, example 6
func TestParityOf(t *testing.T) {
	eighths := [8]int{8192, 8192, 8192, 8192, 8192, 8192, 8192, 8192}
	wantList(t, "example 6", paritiesOf(t, [][8]int{{}}, 1), [][8]int{eighths})
	for _, count := range []int{1, 2, 5, 12} {
		data := someData(count, count)
		for parities := 1; parities <= 4; parities++ {
			want := make([][8]int, parities)
			for j := range want {
				for i, x := range data {
					weight := inverse(4 + i - j)
					for k := range x {
						want[j][k] = (want[j][k] + weight*(x[k]+32768)) % prime
					}
				}
			}
			wantList(t, count, paritiesOf(t, data, parities), want)
		}
	}
}

// P1.11
func TestParitiesOfOneBlock(t *testing.T) {
	for seed := range 10 {
		x := eight(seed, -32767, 32767)
		for j, parity := range paritiesOf(t, [][8]int{x}, 4) {
			for k := range x {
				if parity[k] < 0 || parity[k] >= prime || parity[k]*(4-j)%prime != x[k]+32768 {
					t.Error(x, j, parity)
				}
			}
		}
	}
}

// P1.5
func TestParityErrors(t *testing.T) {
	bad := [8]int{0, 0, 32768}
	for _, x := range []struct {
		what  string
		data  [][8]int
		count int
		want  api.Errno
	}{
		{"no data", nil, 1, api.ErrShape},
		{"no data and no count", nil, 0, api.ErrShape},
		{"13 blocks", make([][8]int, 13), 1, api.ErrLarge},
		{"13 blocks before a sample", slices.Repeat([][8]int{bad}, 13), 0, api.ErrLarge},
		{"a sample", [][8]int{{}, bad}, 1, api.ErrRange},
		{"another sample", [][8]int{{7: -32768}}, 1, api.ErrRange},
		{"the count 0", [][8]int{{}}, 0, api.ErrRange},
		{"the count 5", [][8]int{{}}, 5, api.ErrRange},
		{"the count -1", [][8]int{{}}, -1, api.ErrRange},
		{"a small count", [][8]int{{}}, extremes[0], api.ErrRange},
		{"a great count", [][8]int{{}}, extremes[3], api.ErrRange},
		{"a small sample", [][8]int{{extremes[0]}}, 1, api.ErrRange},
		{"a great sample", [][8]int{{extremes[3]}}, 1, api.ErrRange},
	} {
		p, e := transfer.ParityOf(x.data, x.count)
		wantError(t, x.what, e, x.want)
		wantList(t, x.what, p, nil)
	}
}

// P1.5: CheckGroup, and Restored with the same errors
func TestGroupErrors(t *testing.T) {
	one, two := [][8]int{{}}, [][8]int{{}, {}}
	badData, badParity := [8]int{3: 32768}, [8]int{3: 65537}
	for _, x := range []struct {
		what string
		g    api.TransferGroup
		want api.Errno
	}{
		{"nothing", api.TransferGroup{}, api.ErrShape},
		{"no data", api.TransferGroup{Parity: one}, api.ErrShape},
		{"no parity", api.TransferGroup{Data: one}, api.ErrShape},
		{"no data, much parity", api.TransferGroup{Parity: make([][8]int, 5), LostData: []int{0}}, api.ErrShape},
		{"no parity, much data", api.TransferGroup{Data: make([][8]int, 13), LostParity: []int{0}}, api.ErrShape},
		{"13 data blocks", api.TransferGroup{Data: make([][8]int, 13), Parity: one, LostData: []int{-1}}, api.ErrLarge},
		{"5 parity blocks", api.TransferGroup{Data: one, Parity: make([][8]int, 5), LostData: []int{-1}}, api.ErrLarge},
		{"large before a range", api.TransferGroup{Data: slices.Repeat([][8]int{badData}, 13), Parity: one}, api.ErrLarge},
		{"missing data", api.TransferGroup{Data: two, Parity: one, LostData: []int{2}}, api.ErrMissing},
		{"negative data", api.TransferGroup{Data: two, Parity: one, LostData: []int{-1}}, api.ErrMissing},
		{"small data", api.TransferGroup{Data: two, Parity: one, LostData: extremes[:1]}, api.ErrMissing},
		{"great data", api.TransferGroup{Data: two, Parity: one, LostData: extremes[3:]}, api.ErrMissing},
		{"missing after the first", api.TransferGroup{Data: two, Parity: one, LostData: []int{1, -1}}, api.ErrMissing},
		{"descending data", api.TransferGroup{Data: two, Parity: one, LostData: []int{1, 0}}, api.ErrOrder},
		{"repeated data", api.TransferGroup{Data: two, Parity: one, LostData: []int{0, 0}}, api.ErrOrder},
		{"order before missing", api.TransferGroup{Data: two, Parity: one, LostData: []int{1, 1, 2}}, api.ErrOrder},
		{"missing before order", api.TransferGroup{Data: two, Parity: one, LostData: []int{1, 2, 2}}, api.ErrMissing},
		{"data before parity", api.TransferGroup{Data: two, Parity: one, LostData: []int{1, 0}, LostParity: []int{1}}, api.ErrOrder},
		{"missing parity", api.TransferGroup{Data: two, Parity: one, LostParity: []int{1}}, api.ErrMissing},
		{"negative parity", api.TransferGroup{Data: two, Parity: one, LostParity: []int{-1}}, api.ErrMissing},
		{"descending parity", api.TransferGroup{Data: one, Parity: two, LostParity: []int{1, 0}}, api.ErrOrder},
		{"repeated parity", api.TransferGroup{Data: one, Parity: two, LostParity: []int{1, 1}}, api.ErrOrder},
		{"missing parity before a range", api.TransferGroup{Data: [][8]int{badData}, Parity: one, LostParity: []int{1}}, api.ErrMissing},
		{"a sample", api.TransferGroup{Data: [][8]int{{}, badData}, Parity: one, LostData: []int{0}}, api.ErrRange},
		{"a small sample", api.TransferGroup{Data: [][8]int{{-32768}}, Parity: one}, api.ErrRange},
		{"a parity", api.TransferGroup{Data: one, Parity: [][8]int{{}, badParity}, LostParity: []int{0}}, api.ErrRange},
		{"a negative parity number", api.TransferGroup{Data: one, Parity: [][8]int{{0, -1}}}, api.ErrRange},
		{"a sample before the loss", api.TransferGroup{Data: [][8]int{badData, {}}, Parity: one, LostData: []int{1}, LostParity: []int{0}}, api.ErrRange},
	} {
		wantError(t, x.what, transfer.CheckGroup(x.g), x.want)
		data, e := transfer.Restored(x.g)
		wantError(t, x.what, e, x.want)
		wantList(t, x.what, data, nil)
	}
}

// P1.5
func TestValidGroups(t *testing.T) {
	for _, x := range [][2]int{{1, 1}, {12, 4}, {3, 2}} {
		data := someData(x[0], x[0])
		parity := paritiesOf(t, data, x[1])
		for _, lost := range subsets(x[1]) {
			wantError(t, x, transfer.CheckGroup(damaged(data, parity, lost[:min(len(lost), x[0])], lost)), api.OK)
		}
	}
	top := [8]int{65536, 0, 65536}
	wantError(t, "any parities", transfer.CheckGroup(api.TransferGroup{Data: [][8]int{{32767, -32767}}, Parity: [][8]int{top}}), api.OK)
}

// P1.10, P1.5: every loss that can be mended is, and every greater one is refused.
func TestRestored(t *testing.T) {
	for _, x := range [][2]int{{1, 1}, {1, 4}, {2, 2}, {3, 4}, {6, 4}, {5, 3}} {
		data := someData(x[0]*7+x[1], x[0])
		data[0] = [8]int{32767, -32767, 0, 1, -1, 32767, -32767, 0}
		parity := paritiesOf(t, data, x[1])
		for _, lostData := range subsets(x[0]) {
			for _, lostParity := range subsets(x[1]) {
				got, e := transfer.Restored(damaged(data, parity, lostData, lostParity))
				if len(lostData) > x[1]-len(lostParity) {
					wantError(t, []any{x, lostData, lostParity}, e, api.ErrLost)
					wantList(t, x, got, nil)
					continue
				}
				wantError(t, []any{x, lostData, lostParity}, e, api.OK)
				wantList(t, []any{x, lostData, lostParity}, got, data)
			}
		}
	}
}

// P1.10: any four of twelve data blocks
func TestRestoredOfTwelve(t *testing.T) {
	data := someData(3, 12)
	parity := paritiesOf(t, data, 4)
	for _, lost := range subsets(12) {
		if len(lost) != 4 {
			continue
		}
		got, e := transfer.Restored(damaged(data, parity, lost, nil))
		wantError(t, lost, e, api.OK)
		wantList(t, lost, got, data)
	}
}

// P1.10: a further parity block of which one number was changed
func TestChangedParityIsAClash(t *testing.T) {
	data := someData(8, 4)
	parity := paritiesOf(t, data, 4)
	for _, lostData := range subsets(4) {
		for _, lostParity := range subsets(4) {
			if len(lostData) >= 4-len(lostParity) {
				continue
			}
			for j := range parity {
				for _, k := range []int{0, 3, 7} {
					if slices.Contains(lostParity, j) {
						continue
					}
					g := damaged(data, parity, lostData, lostParity)
					g.Parity[j][k] = (g.Parity[j][k] + 1 + k*9000) % prime
					got, e := transfer.Restored(g)
					wantError(t, []any{lostData, lostParity, j, k}, e, api.ErrClash)
					wantList(t, j, got, nil)
				}
			}
		}
	}
}

// P1.5: the edge cases of groups with nothing lost, and with all parities lost
func TestRestoredWithNothingLost(t *testing.T) {
	data := someData(9, 3)
	parity := paritiesOf(t, data, 2)
	got, e := transfer.Restored(damaged(data, parity, nil, nil))
	wantError(t, "nothing lost", e, api.OK)
	wantList(t, "nothing lost", got, data)
	got, e = transfer.Restored(damaged(data, parity, nil, []int{0, 1}))
	wantError(t, "all parities lost", e, api.OK)
	wantList(t, "all parities lost", got, data)
	got, e = transfer.Restored(damaged(data, parity, []int{1}, []int{0, 1}))
	wantError(t, "a block and all parities lost", e, api.ErrLost)
	wantList(t, "a block and all parities lost", got, nil)
	for k := range 8 {
		g := damaged(data, parity, nil, []int{0})
		g.Data[1][k] -= g.Data[1][k]/2 + 1
		got, e = transfer.Restored(g)
		wantError(t, "a wrong sample", e, api.ErrClash)
		wantList(t, "a wrong sample", got, nil)
	}
}

// P1.5: what would be restored has to be samples; the numbers 0 and 65536 are of none.
func TestRestoredNumbersAreSamples(t *testing.T) {
	for _, x := range []struct {
		number int
		want   api.Errno
	}{{0, api.ErrClash}, {1, api.OK}, {32768, api.OK}, {65535, api.OK}, {65536, api.ErrClash}} {
		for j := range 4 {
			parity := make([][8]int, 4)
			for k := range 8 {
				parity[j][k] = 32768 * inverse(4-j) % prime
			}
			parity[j][5] = x.number * inverse(4-j) % prime
			lost := slices.DeleteFunc([]int{0, 1, 2, 3}, func(i int) bool { return i == j })
			g := api.TransferGroup{Data: [][8]int{{}}, Parity: parity, LostData: []int{0}, LostParity: lost}
			got, e := transfer.Restored(g)
			wantError(t, x, e, x.want)
			if x.want == api.OK {
				wantList(t, x, got, [][8]int{{5: x.number - 32768}})
			} else {
				wantList(t, x, got, nil)
			}
		}
	}
}
