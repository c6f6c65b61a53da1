package click_test

import (
	"math"
	"math/big"
	"slices"
	"testing"

	"lacquer/api"
	"lacquer/click"
)

func mend(from, den int, nums ...int) api.ClickMend {
	return api.ClickMend{From: from, Den: den, Nums: nums}
}

// manyMarks returns marks of one sample each, three samples apart.
func manyMarks(count int) []api.Range {
	var l []api.Range
	for i := range count {
		l = append(l, api.Range{Lo: 3 * i, Hi: 3 * i})
	}
	return l
}

// badMarks is a signal with marks, their error, and the index of the mark.
type badMarks struct {
	x     []int
	marks []api.Range
	index int
	e     api.Errno
}

func marksWithErrors() []badMarks {
	ten := make([]int, 10)
	l := []badMarks{
		{make([]int, 200), manyMarks(21), 0, api.ErrLarge},
		{make([]int, 200), make([]api.Range, 21), 0, api.ErrLarge},
		{nil, ranges(slices.Repeat([]int{-1, -1}, 21)...), 0, api.ErrLarge},
		{ten, ranges(3, 2), 0, api.ErrOrder},
		{ten, ranges(9, 0), 0, api.ErrOrder},
		{ten, ranges(0, 0, 4, 3), 1, api.ErrOrder},
		{make([]int, 11), ranges(0, 8), 0, api.ErrLarge},
		{make([]int, 200), ranges(0, 199), 0, api.ErrLarge},
		{make([]int, 40), ranges(0, 7, 10, 18), 1, api.ErrLarge},
		// One sample between two marks, or none, or fewer.
		{ten, ranges(0, 1, 3, 3), 1, api.ErrGap},
		{ten, ranges(0, 1, 2, 3), 1, api.ErrGap},
		{ten, ranges(0, 1, 1, 2), 1, api.ErrGap},
		{ten, ranges(5, 5, 1, 1), 1, api.ErrGap},
		{ten, ranges(5, 5, 5, 5), 1, api.ErrGap},
		{ten, ranges(0, 0, 3, 3, 5, 5), 2, api.ErrGap},
		{ten, ranges(0, 0, 4, 4, 1, 1), 2, api.ErrGap},
		// Of several errors the first one.
		{ten, ranges(10, 0), 0, api.ErrRange},
		{ten, ranges(5, 6, 3, 2), 1, api.ErrOrder},
		{make([]int, 40), ranges(20, 22, 10, 18), 1, api.ErrLarge},
		{ten, ranges(5, 5, 3, 3, 10, 10), 1, api.ErrGap},
		{ten, ranges(0, 0, 10, 10, 3, 2), 1, api.ErrRange},
		// Fewer than two samples are not marked.
		{[]int{1}, ranges(0, 0), 0, api.ErrSingular},
		{[]int{1, 2}, ranges(0, 0), 0, api.ErrSingular},
		{[]int{1, 2}, ranges(1, 1), 0, api.ErrSingular},
		{[]int{1, 2}, ranges(0, 1), 0, api.ErrSingular},
		{[]int{1, 2, 3}, ranges(1, 2), 0, api.ErrSingular},
		{make([]int, 9), ranges(1, 8), 0, api.ErrSingular},
		{make([]int, 8), ranges(0, 7), 0, api.ErrSingular},
	}
	for _, n := range beyond(0, 9) {
		l = append(l,
			badMarks{ten, ranges(n, 5), 0, api.ErrRange},
			badMarks{ten, ranges(5, n), 0, api.ErrRange},
			badMarks{ten, ranges(n, n), 0, api.ErrRange},
			badMarks{ten, ranges(0, 0, 5, 6, n, n), 2, api.ErrRange},
			badMarks{nil, ranges(n, n), 0, api.ErrRange})
	}
	l = append(l, badMarks{nil, ranges(0, 0), 0, api.ErrRange})
	for _, bad := range signalsWithErrors() {
		l = append(l, badMarks{bad.x, nil, 0, bad.e}, badMarks{bad.x, ranges(-1, -1), 0, bad.e}, badMarks{bad.x, make([]api.Range, 21), 0, bad.e})
	}
	return l
}

// P5.3
func TestCheckMarks(t *testing.T) {
	for _, v := range []struct {
		count int
		marks []api.Range
	}{
		{0, nil}, {1, nil}, {2, nil}, {200, nil}, {3, ranges(0, 0)}, {3, ranges(1, 1)}, {3, ranges(2, 2)}, {10, ranges(0, 7)}, {10, ranges(2, 9)}, {10, ranges(1, 8)},
		{4, ranges(0, 0, 3, 3)}, {18, ranges(0, 7, 10, 17)}, {200, manyMarks(20)}, {58, manyMarks(20)}, {200, ranges(199, 199)},
	} {
		expect(t, v, shown(click.CheckMarks(make([]int, v.count), v.marks)), shown(0, api.OK))
	}
	for _, bad := range marksWithErrors() {
		expect(t, bad, shown(click.CheckMarks(bad.x, bad.marks)), shown(bad.index, bad.e))
	}
}

// P5.4
func TestErrorsOfMarks(t *testing.T) {
	for _, bad := range marksWithErrors() {
		expect(t, bad, shown(click.Exact(bad.x, bad.marks)), shown([]api.ClickMend{}, bad.e))
		expect(t, bad, shown(click.Interpolated(bad.x, bad.marks)), shown([]int{}, bad.e))
		expect(t, bad, shown(click.CheckExact(bad.x, bad.marks, nil)), shown(0, bad.e))
		expect(t, bad, shown(click.CheckExact(bad.x, bad.marks, []api.ClickMend{mend(0, 1, 0), mend(3, 0)})), shown(0, bad.e))
	}
}

// P5.4, examples 3 and 4
func TestExact(t *testing.T) {
	for _, v := range []struct {
		x     []int
		marks []api.Range
		mends []api.ClickMend
		y     []int
	}{
		{[]int{0, 0, 9, 6, 8}, ranges(2, 2), []api.ClickMend{mend(2, 3, 8)}, []int{0, 0, 3, 6, 8}},
		{[]int{7, 7, 4, 6, 9}, ranges(0, 1), []api.ClickMend{mend(0, 1, 0, 2)}, []int{0, 2, 4, 6, 9}},
		{[]int{0, 0, 9, 0, 0}, ranges(2, 2), []api.ClickMend{mend(2, 1, 0)}, []int{0, 0, 0, 0, 0}},
		// Only one second difference, two, or three.
		{[]int{1, 9, 4}, ranges(1, 1), []api.ClickMend{mend(1, 2, 5)}, []int{1, 3, 4}},
		{[]int{-1, 9, -4}, ranges(1, 1), []api.ClickMend{mend(1, 2, -5)}, []int{-1, -2, -4}},
		{[]int{9, 3, 5}, ranges(0, 0), []api.ClickMend{mend(0, 1, 1)}, []int{1, 3, 5}},
		{[]int{3, 5, 0}, ranges(2, 2), []api.ClickMend{mend(2, 1, 7)}, []int{3, 5, 7}},
		{[]int{0, 99, 0, 5}, ranges(1, 1), []api.ClickMend{mend(1, 1, -1)}, []int{0, -1, 0, 5}},
		{[]int{3, 9, -9, 6}, ranges(1, 2), []api.ClickMend{mend(1, 1, 4, 5)}, []int{3, 4, 5, 6}},
		{[]int{3, 9, -9, 7}, ranges(1, 2), []api.ClickMend{mend(1, 3, 13, 17)}, []int{3, 4, 6, 7}},
		{[]int{0, 1, 9, 9, 1, 0}, ranges(2, 3), []api.ClickMend{mend(2, 2, 3, 3)}, []int{0, 1, 2, 2, 1, 0}},
		{[]int{0, -1, 9, 9, -1, 0}, ranges(2, 3), []api.ClickMend{mend(2, 2, -3, -3)}, []int{0, -1, -1, -1, -1, 0}},
		{[]int{5, 1, 2, 5}, ranges(0, 0, 3, 3), []api.ClickMend{mend(0, 1, 0), mend(3, 1, 3)}, []int{0, 1, 2, 3}},
		// Values that are too great are limited.
		{[]int{0, maxSample, -maxSample}, ranges(0, 0), []api.ClickMend{mend(0, 1, 3*maxSample)}, []int{maxSample, maxSample, -maxSample}},
		{[]int{0, 0, -maxSample, maxSample}, ranges(0, 1), []api.ClickMend{mend(0, 1, -5*maxSample, -3*maxSample)}, []int{-maxSample, -maxSample, -maxSample, maxSample}},
		{[]int{0, 32765, 32766}, ranges(0, 0), []api.ClickMend{mend(0, 1, 32764)}, []int{32764, 32765, 32766}},
		{[]int{32765, 32766, 0}, ranges(2, 2), []api.ClickMend{mend(2, 1, maxSample)}, []int{32765, 32766, maxSample}},
		{[]int{32766, maxSample, 0}, ranges(2, 2), []api.ClickMend{mend(2, 1, maxSample+1)}, []int{32766, maxSample, maxSample}},
		{[]int{-32766, -maxSample, 0}, ranges(2, 2), []api.ClickMend{mend(2, 1, -maxSample-1)}, []int{-32766, -maxSample, -maxSample}},
		// Without marks nothing is mended.
		{[]int{5, -9, 0}, nil, nil, []int{5, -9, 0}},
		{[]int{5}, nil, nil, []int{5}},
		{nil, nil, nil, nil},
	} {
		expect(t, v, shown(click.Exact(v.x, v.marks)), shown(v.mends, api.OK))
		expect(t, v, shown(click.CheckExact(v.x, v.marks, v.mends)), shown(0, api.OK))
		expect(t, v, shown(click.Interpolated(v.x, v.marks)), shown(v.y, api.OK))
	}
}

// task is a signal with marks.
type task struct {
	x     []int
	marks []api.Range
}

// someTasks returns signals with marks, among them marks of each length at the beginning, at the end and in the middle.
func someTasks(seed uint64) []task {
	d := dice(seed)
	var l []task
	for length := 1; length <= 8; length++ {
		for count := length + 2; count <= length+6; count++ {
			for lo := 0; lo+length <= count; lo++ {
				marks := ranges(lo, lo+length-1)
				l = append(l, task{someNumbers(d, count, 9), marks}, task{someNumbers(d, count, maxSample), marks})
			}
		}
	}
	for range 200 {
		count := between(d, 3, 200)
		l = append(l, task{someNumbers(d, count, []int{9, maxSample}[d.IntN(2)]), someMarks(d, count)})
	}
	return append(l, task{slices.Repeat([]int{maxSample, -maxSample}, 100), someMarks(d, 200)}, task{someNumbers(d, 200, maxSample), manyMarks(20)})
}

// P5.4: the values have the proof, all of them together, and no others have it. They are rounded as the document says.
func TestExactByDefinition(t *testing.T) {
	for _, v := range someTasks(4) {
		l := exact(t, v.x, v.marks)
		if len(l) != len(v.marks) {
			t.Fatal(v, l)
		}
		y := withValues(v.x, l)
		want := slices.Clone(v.x)
		for i, mark := range v.marks {
			checkLowest(t, mark, l[i])
			for j := mark.Lo; j <= mark.Hi; j++ {
				if proofSum(y, j).Sign() != 0 {
					t.Fatal(v, l, "are not proved at", j)
				}
				rounded := floor(new(big.Rat).Add(y[j], big.NewRat(1, 2)))
				want[j] = max(-maxSample, min(maxSample, rounded))
			}
		}
		expect(t, v, shown(click.Interpolated(v.x, v.marks)), shown(want, api.OK))
	}
}

// checkLowest expects a mend of a mark whose numerators and denominator have no divisor in common.
func checkLowest(t *testing.T, mark api.Range, m api.ClickMend) {
	t.Helper()
	divisor := big.NewInt(int64(m.Den))
	for _, num := range m.Nums {
		divisor.GCD(nil, nil, divisor, big.NewInt(int64(max(num, -num))))
	}
	if m.From != mark.Lo || len(m.Nums) != mark.Hi-mark.Lo+1 || m.Den < 1 || divisor.Cmp(big.NewInt(1)) != 0 {
		t.Error(mark, m)
	}
}

// P5.9
func TestMendedValuesHaveMinimumEnergy(t *testing.T) {
	d := dice(6)
	wholes := 0
	for _, v := range someTasks(5) {
		l := exact(t, v.x, v.marks)
		least := energyIn(withValues(v.x, l))
		for range 3 {
			other := withValues(v.x, l)
			isOther := false
			for _, mark := range v.marks {
				for i := mark.Lo; i <= mark.Hi; i++ {
					change := between(d, -1, 1)
					isOther = isOther || change != 0
					other[i] = new(big.Rat).Add(other[i], big.NewRat(int64(change), int64(between(d, 1, 50))))
				}
			}
			if isOther && energyIn(other).Cmp(least) <= 0 {
				t.Fatal(v, l, "have not less energy than", other)
			}
		}
		if isWhole(l) {
			wholes++
			y, _ := click.Interpolated(v.x, v.marks)
			expect(t, v, shown(click.EnergyOf(y)), shown(least.Num(), api.OK))
		}
	}
	if wholes < 50 {
		t.Error("too few values are whole:", wholes)
	}
}

// isWhole tells whether all values of mends are samples.
func isWhole(l []api.ClickMend) bool {
	return !slices.ContainsFunc(l, func(m api.ClickMend) bool {
		return m.Den != 1 || slices.Max(m.Nums) > maxSample || slices.Min(m.Nums) < -maxSample
	})
}

// P5.10
func TestCheckExactAcceptsExactOnly(t *testing.T) {
	for _, v := range someTasks(7) {
		l := exact(t, v.x, v.marks)
		expect(t, v, shown(click.CheckExact(v.x, v.marks, l)), shown(0, api.OK))
		for i, m := range l {
			for k := range m.Nums {
				for _, by := range []int{-1, 1, m.Den} {
					m.Nums[k] += by
					if n, e := click.CheckExact(v.x, v.marks, l); n != i || e != api.ErrProof && e != api.ErrForm {
						t.Fatal(v, l, n, e)
					}
					m.Nums[k] -= by
				}
			}
			for _, den := range []int{m.Den + 1, 2 * m.Den, 999983} {
				l[i].Den = den
				if n, e := click.CheckExact(v.x, v.marks, l); n != i || e != api.ErrProof && e != api.ErrForm {
					t.Fatal(v, l, n, e)
				}
			}
			l[i] = m
		}
		expect(t, v, shown(click.CheckExact(v.x, v.marks, l)), shown(0, api.OK))
	}
}

// P5.4
func TestCheckExactErrors(t *testing.T) {
	x := []int{0, 0, 9, 6, 8, 0, 0, 7}
	marks := ranges(2, 2, 5, 6)
	first := exact(t, x, marks)[0]
	second := exact(t, x, marks)[1]
	expect(t, "exact", shown(first, second), shown(mend(2, 3, 8), mend(5, 2, 17, 16)))
	long := make([]int, 100000)
	for _, v := range []struct {
		l     []api.ClickMend
		index int
		e     api.Errno
	}{
		{[]api.ClickMend{first, second}, 0, api.OK},
		{nil, 0, api.ErrShape},
		{[]api.ClickMend{first}, 0, api.ErrShape},
		{[]api.ClickMend{first, second, mend(7, 1, 7)}, 0, api.ErrShape},
		{make([]api.ClickMend, 5000), 0, api.ErrShape},
		{[]api.ClickMend{second, first}, 0, api.ErrShape},
		{[]api.ClickMend{mend(3, 3, 8), second}, 0, api.ErrShape},
		{[]api.ClickMend{mend(1, 3, 8), second}, 0, api.ErrShape},
		{[]api.ClickMend{mend(math.MinInt, 3, 8), second}, 0, api.ErrShape},
		{[]api.ClickMend{mend(math.MaxInt, 3, 8), second}, 0, api.ErrShape},
		{[]api.ClickMend{mend(2, 3), second}, 0, api.ErrShape},
		{[]api.ClickMend{mend(2, 3, 8, 18), second}, 0, api.ErrShape},
		{[]api.ClickMend{mend(2, 3, long...), second}, 0, api.ErrShape},
		{[]api.ClickMend{first, mend(5, 2, 17)}, 1, api.ErrShape},
		{[]api.ClickMend{first, mend(5, 2, 17, 16, 14)}, 1, api.ErrShape},
		{[]api.ClickMend{first, mend(6, 2, 17, 16)}, 1, api.ErrShape},
		// Of several errors the first one.
		{[]api.ClickMend{mend(3, 0, 8), second}, 0, api.ErrShape},
		{[]api.ClickMend{mend(2, 0, 8, math.MinInt), second}, 0, api.ErrShape},
		{[]api.ClickMend{mend(2, 3, 7), mend(9, 0)}, 0, api.ErrProof},
		{[]api.ClickMend{mend(2, 6, 16), mend(5, 2, 17, 15)}, 0, api.ErrForm},
		{[]api.ClickMend{first, mend(5, 0, 0, 0)}, 1, api.ErrRange},
		{[]api.ClickMend{mend(2, 3000000, 8000000), second}, 0, api.ErrRange},
		{[]api.ClickMend{mend(2, -3, -8), second}, 0, api.ErrRange},
		// A divisor in common.
		{[]api.ClickMend{mend(2, 6, 16), second}, 0, api.ErrForm},
		{[]api.ClickMend{mend(2, 6, -4), second}, 0, api.ErrForm},
		{[]api.ClickMend{mend(2, 2, 0), second}, 0, api.ErrForm},
		{[]api.ClickMend{mend(2, 1000000, 1000000000000), second}, 0, api.ErrForm},
		{[]api.ClickMend{first, mend(5, 4, 34, 32)}, 1, api.ErrForm},
		// None.
		{[]api.ClickMend{first, mend(5, 4, 34, 33)}, 1, api.ErrProof},
		{[]api.ClickMend{first, mend(5, 2, 17, 15)}, 1, api.ErrProof},
		{[]api.ClickMend{first, mend(5, 2, 19, 16)}, 1, api.ErrProof},
		{[]api.ClickMend{first, mend(5, 2, 16, 17)}, 1, api.ErrProof},
		{[]api.ClickMend{mend(2, 1, 0), second}, 0, api.ErrProof},
		{[]api.ClickMend{mend(2, 3, -8), second}, 0, api.ErrProof},
		{[]api.ClickMend{mend(2, 1000000, 2666667), second}, 0, api.ErrProof},
		{[]api.ClickMend{mend(2, 1000000, 999999999999), second}, 0, api.ErrProof},
		{[]api.ClickMend{mend(2, 1, 1000000000000), second}, 0, api.ErrProof},
		{[]api.ClickMend{mend(2, 1, -1000000000000), second}, 0, api.ErrProof},
	} {
		expect(t, v.l[:min(len(v.l), 3)], shown(click.CheckExact(x, marks, v.l)), shown(v.index, v.e))
	}
	for _, n := range beyond(1, 1000000) {
		expect(t, n, shown(click.CheckExact(x, marks, []api.ClickMend{mend(2, n, 8), second})), shown(0, api.ErrRange))
		expect(t, n, shown(click.CheckExact(x, marks, []api.ClickMend{first, mend(5, n, 17, 16)})), shown(1, api.ErrRange))
	}
	for _, n := range beyond(-1000000000000, 1000000000000) {
		expect(t, n, shown(click.CheckExact(x, marks, []api.ClickMend{mend(2, 3, n), second})), shown(0, api.ErrRange))
		expect(t, n, shown(click.CheckExact(x, marks, []api.ClickMend{first, mend(5, 2, 17, n)})), shown(1, api.ErrRange))
		expect(t, n, shown(click.CheckExact(x, marks, []api.ClickMend{first, mend(5, 1, n, 16)})), shown(1, api.ErrRange))
	}
	expect(t, "no marks", shown(click.CheckExact(x, nil, nil)), shown(0, api.OK))
	expect(t, "no marks", shown(click.CheckExact(nil, nil, nil)), shown(0, api.OK))
	expect(t, "no marks", shown(click.CheckExact(x, nil, []api.ClickMend{first})), shown(0, api.ErrShape))
}

// P5.11
func TestLinesAreContinued(t *testing.T) {
	d := dice(8)
	for range 300 {
		count := between(d, 3, 200)
		marks := someMarks(d, count)
		a, b := between(d, -1000, 1000), between(d, -150, 150)
		x := make([]int, count)
		want := make([]int, count)
		for i := range x {
			want[i] = a + b*i
			x[i] = want[i]
			if covers(marks, i) {
				x[i] = between(d, -maxSample, maxSample)
			}
		}
		for _, m := range exact(t, x, marks) {
			expect(t, x, shown(m), shown(mend(m.From, 1, want[m.From:m.From+len(m.Nums)]...)))
		}
		expect(t, x, shown(click.Interpolated(x, marks)), shown(want, api.OK))
	}
}

// P5.4, example 5
func TestMended(t *testing.T) {
	loud := slices.Concat(make([]int, 5), []int{9}, make([]int, 5))
	for _, v := range []struct {
		r    api.ClickRules
		x, y []int
		e    api.Errno
	}{
		{median(1, 5, 2, 4, 50), []int{0, 0, 9, 0, 0}, []int{0, 0, 0, 0, 0}, api.OK},
		{median(1, 5, 2, 4, 20), []int{0, 0, 9, 0, 0}, []int{0, 0, 0, 0, 0}, api.OK},
		{median(1, 5, 2, 4, 19), []int{0, 0, 9, 0, 0}, nil, api.ErrBreak},
		{median(1, 5, 2, 4, 0), []int{0, 0, 9, 0, 0}, nil, api.ErrBreak},
		{median(1, 5, 2, 4, 10), loud, make([]int, 11), api.OK},
		{median(1, 5, 2, 4, 9), loud, nil, api.ErrBreak},
		// Without clicks nothing is changed, and passages are no clicks.
		{median(1, 9, 2, 4, 0), []int{0, 0, 9, 0, 0}, []int{0, 0, 9, 0, 0}, api.OK},
		{median(1, 5, 2, 2, 0), []int{0, 0, 9, 0, 9, 0, 0}, []int{0, 0, 9, 0, 9, 0, 0}, api.OK},
		{median(1, 5, 2, 3, 0), []int{0, 0, 9, 0, 9, 0, 0}, nil, api.ErrBreak},
		// What lies between suspicious samples is mended, too.
		{median(1, 5, 2, 4, 50), []int{0, 0, 9, 3, 0, -9, 0, 0}, make([]int, 8), api.OK},
		{median(1, 5, 2, 4, 49), []int{0, 0, 9, 3, 0, -9, 0, 0}, nil, api.ErrBreak},
		{median(1, 5, 2, 2, 10), []int{0, 0, 9, 0, 9, 0, 0, 0, 0, 9, 0}, []int{0, 0, 9, 0, 9, 0, 0, 0, 0, 0, 0}, api.OK},
		{curve(20, 2, 3, 60), []int{0, 1, 2, 20, 4, 5}, []int{0, 1, 2, 3, 4, 5}, api.OK},
		// Clicks at both ends are extrapolated.
		{median(1, 5, 2, 1, 60), []int{20, 1, 2, 3, 4, 20}, []int{0, 1, 2, 3, 4, 5}, api.OK},
		{median(1, 5, 2, 1, 100), nil, nil, api.OK},
		{median(1, 5, 2, 1, 0), []int{5}, []int{5}, api.OK},
		// Fewer than two samples are not marked.
		{median(1, 5, 2, 1, 50), []int{0, 9}, nil, api.ErrSingular},
		{median(1, 5, 2, 1, 49), []int{0, 9}, nil, api.ErrBreak},
		{median(1, 5, 2, 8, 100), []int{9, 0, 9}, nil, api.ErrSingular},
		{curve(5, 2, 8, 100), []int{0, 9, 0}, []int{0, 0, 0}, api.OK},
	} {
		expect(t, v, shown(click.Mended(v.r, v.x)), shown(v.y, v.e))
	}
}

// P5.4
func TestMendedManyClicks(t *testing.T) {
	rules := median(1, 5, 2, 1, 25)
	cracks := func(count int) []int {
		return slices.Concat(slices.Repeat([]int{0, 9, 0, 0}, count), make([]int, 200-4*count))
	}
	expect(t, "20 clicks", shown(click.Mended(rules, cracks(20))), shown(make([]int, 200), api.OK))
	expect(t, "21 clicks", shown(click.Mended(rules, cracks(21))), shown([]int{}, api.ErrLarge))
	expect(t, "50 clicks", shown(click.Mended(rules, cracks(50))), shown([]int{}, api.ErrLarge))
	rules.Percent = 24
	expect(t, "50 clicks", shown(click.Mended(rules, cracks(50))), shown([]int{}, api.ErrBreak))
	expect(t, "48 clicks", shown(click.Mended(rules, cracks(48))), shown([]int{}, api.ErrLarge))
}

// mended is the document's definition.
func mended(r api.ClickRules, x []int, clicks []api.Range) ([]int, api.Errno) {
	marked := 0
	for i := range x {
		if covers(clicks, i) {
			marked++
		}
	}
	switch {
	case 100*marked > r.Percent*len(x):
		return nil, api.ErrBreak
	case len(clicks) > 20:
		return nil, api.ErrLarge
	case len(clicks) > 0 && len(x)-marked < 2:
		return nil, api.ErrSingular
	}
	return click.Interpolated(x, clicks)
}

// P5.4, P5.5 and P5.8
func TestMendedByDefinition(t *testing.T) {
	d := dice(9)
	counts := map[api.Errno]int{}
	for n := range 3000 {
		r, x := someRules(d), crackling(d, between(d, 1, []int{4, 200}[d.IntN(2)]))
		if n%4 == 0 {
			r.Join, r.Percent = 2, 100
			for i := 0; i < len(x); i += between(d, 4, 9) {
				x[i] = 50
			}
		}
		l, _ := click.Clicks(r, x)
		clicks := runsIn(l)
		want, wantError := mended(r, x, clicks)
		y, e := click.Mended(r, x)
		counts[e]++
		expect(t, r, shown(y, e), shown(want, wantError))
		if e != api.OK {
			continue
		}
		touched, touchedError := click.Touched(x, y)
		expect(t, "touched", shown(touchedError), shown(api.OK))
		for _, i := range touched {
			if !covers(clicks, i) {
				t.Error(r, x, y, "differ outside of the clicks at", i)
			}
		}
		if len(clicks) == 0 {
			expect(t, "no clicks", shown(y), shown(x))
		}
	}
	for _, e := range []api.Errno{api.OK, api.ErrBreak, api.ErrLarge, api.ErrSingular} {
		if counts[e] < 5 {
			t.Error("too few have the error", e, counts)
		}
	}
}

// P5.5
func TestTouched(t *testing.T) {
	for _, v := range []struct {
		x, y, want []int
		e          api.Errno
	}{
		{[]int{1, 2, 3}, []int{1, 0, 4}, []int{1, 2}, api.OK},
		{[]int{1, 2, 3}, []int{1, 2, 3}, nil, api.OK},
		{[]int{1, 2, 3}, []int{-1, 2, 3}, []int{0}, api.OK},
		{nil, []int{}, nil, api.OK},
		{make([]int, 200), bad(200, 199, maxSample), []int{199}, api.OK},
		{[]int{1}, nil, nil, api.ErrShape},
		{nil, []int{1}, nil, api.ErrShape},
		{[]int{1, 2}, []int{1, 2, 3}, nil, api.ErrShape},
		{make([]int, 200), make([]int, 199), nil, api.ErrShape},
	} {
		expect(t, v, shown(click.Touched(v.x, v.y)), shown(v.want, v.e))
	}
	for _, bad := range signalsWithErrors() {
		for _, other := range [][]int{nil, {1, 2}, make([]int, len(bad.x)), make([]int, 201), {maxSample + 1}} {
			expect(t, "first", shown(click.Touched(bad.x, other)), shown([]int{}, bad.e))
		}
		for _, other := range [][]int{nil, {1, 2}, make([]int, min(200, len(bad.x)))} {
			expect(t, "second", shown(click.Touched(other, bad.x)), shown([]int{}, bad.e))
		}
	}
}
