package spectrum_test

import (
	"fmt"
	"math"
	"math/big"
	"math/rand/v2"
	"slices"
	"testing"

	"lacquer/api"
)

const maxSample = 32767

// shown returns the results of a call as a string in which a nil slice and an empty one are alike.
func shown(results ...any) string {
	return fmt.Sprintln(results...)
}

func expect(t *testing.T, what any, got, want string) {
	t.Helper()
	if got != want {
		t.Errorf("%+v: %swant %s", what, got, want)
	}
}

// beyond returns numbers that are just beyond the limits lo and hi, and extreme ones.
func beyond(lo, hi int) []int {
	return []int{lo - 1, hi + 1, math.MinInt, math.MinInt + 1, math.MaxInt - 1, math.MaxInt}
}

// dice returns a source of numbers that are always the same.
func dice(seed uint64) *rand.Rand {
	return rand.New(rand.NewPCG(seed, 6))
}

// between returns a number from lo to hi.
func between(d *rand.Rand, lo, hi int) int {
	return lo + d.IntN(hi-lo+1)
}

// someNumbers returns count numbers of at most limit in size, often the limits themselves.
func someNumbers(d *rand.Rand, count, limit int) []int {
	var l []int
	for range count {
		n := between(d, -limit, limit)
		if d.IntN(4) == 0 {
			n = limit * between(d, -1, 1)
		}
		l = append(l, n)
	}
	return l
}

// bad returns a slice of zeros with a number at an index.
func bad(count, at, n int) []int {
	x := make([]int, count)
	x[at] = n
	return x
}

// badSignal is a signal with its error.
type badSignal struct {
	x []int
	e api.Errno
}

func signalsWithErrors() []badSignal {
	l := []badSignal{{make([]int, 401), api.ErrLarge}, {bad(401, 0, maxSample+1), api.ErrLarge}, {make([]int, 5000), api.ErrLarge}}
	for _, n := range beyond(-maxSample, maxSample) {
		l = append(l,
			badSignal{[]int{n}, api.ErrRange},
			badSignal{[]int{0, maxSample, -maxSample, n}, api.ErrRange},
			badSignal{bad(400, 399, n), api.ErrRange},
			badSignal{bad(400, 0, n), api.ErrRange})
	}
	return l
}

// region returns a region: the ends of its frames and of its bins.
func region(ends ...int) api.SpectrumRegion {
	return api.SpectrumRegion{Frames: api.Range{Lo: ends[0], Hi: ends[1]}, Bins: api.Range{Lo: ends[2], Hi: ends[3]}}
}

// badRegion is a region with its error.
type badRegion struct {
	region api.SpectrumRegion
	e      api.Errno
}

func regionsWithErrors() []badRegion {
	l := []badRegion{
		{region(3, 2, 0, 4), api.ErrOrder}, {region(100, 0, 0, 0), api.ErrOrder}, {region(0, 0, 1, 0), api.ErrOrder}, {region(2, 1, 4, 3), api.ErrOrder},
		// Of several errors the first one.
		{region(3, 2, 0, 5), api.ErrRange}, {region(101, 2, 0, 4), api.ErrRange}, {region(0, 0, 5, 4), api.ErrRange}, {region(3, 2, -1, 4), api.ErrRange},
	}
	for _, n := range beyond(0, 100) {
		l = append(l, badRegion{region(n, 5, 0, 4), api.ErrRange}, badRegion{region(5, n, 0, 4), api.ErrRange}, badRegion{region(n, n, 0, 4), api.ErrRange})
	}
	for _, n := range beyond(0, 4) {
		l = append(l, badRegion{region(0, 5, n, 3), api.ErrRange}, badRegion{region(0, 5, 3, n), api.ErrRange}, badRegion{region(0, 5, n, n), api.ErrRange})
	}
	return l
}

// gain returns a gain: the ends of its frames and of its bins, and its number.
func gain(l ...int) api.SpectrumEdit {
	return api.SpectrumEdit{Kind: api.SpectrumGain, Region: region(l...), Number: l[4]}
}

// copied returns a copy: the ends of its frames and of its bins, and its number.
func copied(l ...int) api.SpectrumEdit {
	return api.SpectrumEdit{Kind: api.SpectrumCopy, Region: region(l...), Number: l[4]}
}

func edits(l ...api.SpectrumEdit) []api.SpectrumEdit {
	return l
}

// someRange returns a range of numbers from 0 to most.
func someRange(d *rand.Rand, most int) api.Range {
	a, b := between(d, 0, most), between(d, 0, most)
	return api.Range{Lo: min(a, b), Hi: max(a, b)}
}

// someEdit returns an edit of any kind. Most frames that it concerns are not above frames.
func someEdit(d *rand.Rand, frames int) api.SpectrumEdit {
	e := api.SpectrumEdit{Kind: d.IntN(2), Region: api.SpectrumRegion{Frames: someRange(d, frames), Bins: someRange(d, 4)}}
	if e.Kind == api.SpectrumCopy {
		e.Number = between(d, 0, frames)
	} else {
		e.Number = []int{0, 8, 16, 32, between(d, 0, 32)}[d.IntN(5)]
	}
	if d.IntN(10) == 0 {
		e.Region.Frames.Hi = 100
	}
	return e
}

// someEdits returns 0 to 4 edits.
func someEdits(d *rand.Rand, frames int) []api.SpectrumEdit {
	var l []api.SpectrumEdit
	for range d.IntN(5) {
		l = append(l, someEdit(d, frames))
	}
	return l
}

// badEdit is an edit with its error.
type badEdit struct {
	edit api.SpectrumEdit
	e    api.Errno
}

func editsWithErrors() []badEdit {
	var l []badEdit
	for _, n := range beyond(0, 1) {
		l = append(l,
			badEdit{api.SpectrumEdit{Kind: n}, api.ErrKind},
			badEdit{api.SpectrumEdit{Kind: n, Region: region(-1, 2, 0, 5), Number: -1}, api.ErrKind})
	}
	for _, bad := range regionsWithErrors() {
		for kind := range 2 {
			for _, number := range []int{0, 16, -1, 101} {
				l = append(l, badEdit{api.SpectrumEdit{Kind: kind, Region: bad.region, Number: number}, bad.e})
			}
		}
	}
	for _, n := range append(beyond(0, 32), 100) {
		l = append(l, badEdit{gain(0, 5, 0, 4, n), api.ErrRange})
	}
	for _, n := range beyond(0, 100) {
		l = append(l, badEdit{copied(0, 5, 0, 4, n), api.ErrRange})
	}
	return l
}

// badEdits is edits with their error, and the index of the edit.
type badEdits struct {
	edits []api.SpectrumEdit
	index int
	e     api.Errno
}

func listsWithErrors() []badEdits {
	good := gain(0, 5, 0, 4, 8)
	wrong := api.SpectrumEdit{Kind: 9}
	l := []badEdits{
		{slices.Repeat(edits(good), 5), 0, api.ErrLarge},
		{slices.Repeat(edits(wrong), 5), 0, api.ErrLarge},
		{slices.Repeat(edits(good), 1000), 0, api.ErrLarge},
		{edits(good, gain(3, 2, 0, 4, 0), wrong), 1, api.ErrOrder},
		{edits(good, wrong, gain(3, 2, 0, 4, 0)), 1, api.ErrKind},
	}
	for _, bad := range editsWithErrors() {
		l = append(l,
			badEdits{edits(bad.edit), 0, bad.e},
			badEdits{edits(good, bad.edit), 1, bad.e},
			badEdits{edits(good, good, good, bad.edit), 3, bad.e})
	}
	return l
}

// root is a real number: a plus b times half the root of 2.
type root struct{ a, b *big.Rat }

// floor returns a number, rounded down.
func (x root) floor() int {
	if x.b.Sign() == 0 {
		return int(new(big.Int).Div(x.a.Num(), x.a.Denom()).Int64())
	}
	// It is not rational. So it is close enough to no whole number for such a precision to fail.
	n, _ := x.float().Int64()
	if x.float().Sign() < 0 {
		n--
	}
	return int(n)
}

const precision = 300

var halfRoot = new(big.Float).SetPrec(precision).Sqrt(big.NewFloat(0.5).SetPrec(precision))

func (x root) float() *big.Float {
	a := new(big.Float).SetPrec(precision).SetRat(x.a)
	b := new(big.Float).SetPrec(precision).SetRat(x.b)
	return a.Add(a, b.Mul(b, halfRoot))
}

// sign returns -1, 0 or 1.
func (x root) sign() int {
	if x.b.Sign() == 0 {
		return x.a.Sign()
	}
	return x.float().Sign()
}

// rounded returns the closest whole number, of two the greater one.
func (x root) rounded() int {
	return root{new(big.Rat).Add(x.a, big.NewRat(1, 2)), x.b}.floor()
}

// mean returns the sum of two numbers times their weights, divided by 8.
func mean(x root, xWeight int, y root, yWeight int) root {
	part := func(p, q *big.Rat) *big.Rat {
		sum := new(big.Rat).Mul(p, big.NewRat(int64(xWeight), 8))
		return sum.Add(sum, new(big.Rat).Mul(q, big.NewRat(int64(yWeight), 8)))
	}
	return root{part(x.a, y.a), part(x.b, y.b)}
}

// turned is the sum of all c[j] times the power j of 1/W, the fourth power of which is -1.
type turned [4]*big.Rat

// sumOf returns the sum of all x[n] times the power turn*n of 1/W, divided by den.
func sumOf(x [8]turned, turn int, den int64) turned {
	sum := turned{new(big.Rat), new(big.Rat), new(big.Rat), new(big.Rat)}
	for n, summand := range x {
		for j, part := range summand {
			at := ((j+turn*n)%8 + 8) % 8
			factor := big.NewRat(1, den)
			if at >= 4 {
				factor.Neg(factor)
			}
			sum[at%4].Add(sum[at%4], factor.Mul(factor, part))
		}
	}
	return sum
}

// scaled returns a number times a factor.
func (c turned) scaled(factor *big.Rat) turned {
	var product turned
	for j := range c {
		product[j] = new(big.Rat).Mul(c[j], factor)
	}
	return product
}

// bin returns a number with whole parts as a bin: 1/W is r + r i, its square i, and its third power -r + r i.
func (c turned) bin() api.SpectrumBin {
	part := func(x *big.Rat) int { return int(x.Num().Int64()) }
	return api.SpectrumBin{
		Plain: api.Gauss{Re: part(c[0]), Im: part(c[2])},
		Root:  api.Gauss{Re: part(c[1]) - part(c[3]), Im: part(c[1]) + part(c[3])},
	}
}

// realPart returns a number that has no imaginary part.
func (c turned) realPart(t *testing.T) root {
	t.Helper()
	if c[2].Sign() != 0 || new(big.Rat).Add(c[1], c[3]).Sign() != 0 {
		t.Fatal("no real number:", c)
	}
	return root{c[0], new(big.Rat).Sub(c[1], c[3])}
}

// transformed is the document's definition.
func transformed(x [8]int) [8]turned {
	var whole, s [8]turned
	for n, sample := range x {
		whole[n] = turned{big.NewRat(int64(sample), 1), new(big.Rat), new(big.Rat), new(big.Rat)}
	}
	for k := range s {
		s[k] = sumOf(whole, -k, 1)
	}
	return s
}

// frameAt is the document's definition.
func frameAt(x []int, frame int) [8]int {
	var samples [8]int
	for n := range samples {
		if i := 4*(frame-1) + n; i >= 0 && i < len(x) {
			samples[n] = x[i]
		}
	}
	return samples
}

// frameCount returns the number of frames of a signal of a length.
func frameCount(length int) int {
	if length == 0 {
		return 0
	}
	return int(math.Ceil(float64(length)/4)) + 1
}

// tableFrames is the number of all frames that edits change or read.
const tableFrames = 201

// applied edits a table with an entry for each frame and each bin, one edit after the other.
func applied[T any](l []api.SpectrumEdit, table [tableFrames][5]T, scaled func(T, *big.Rat) T) [tableFrames][5]T {
	for _, e := range l {
		before := table
		for f := e.Region.Frames.Lo; f <= e.Region.Frames.Hi; f++ {
			for k := e.Region.Bins.Lo; k <= e.Region.Bins.Hi; k++ {
				if e.Kind == api.SpectrumCopy {
					table[f][k] = before[f-e.Region.Frames.Lo+e.Number][k]
				} else {
					table[f][k] = scaled(before[f][k], big.NewRat(int64(e.Number), 16))
				}
			}
		}
	}
	return table
}

// cellsAfter returns for each frame and each bin what it is after edits.
func cellsAfter(l []api.SpectrumEdit) [tableFrames][5]api.SpectrumCell {
	var table [tableFrames][5]api.SpectrumCell
	for f := range table {
		for k := range table[f] {
			table[f][k] = itself(f)
		}
	}
	return applied(l, table, func(c api.SpectrumCell, factor *big.Rat) api.SpectrumCell {
		product := factor.Mul(factor, big.NewRat(int64(c.Gain.Num), int64(c.Gain.Den)))
		return cell(c.Frame, int(product.Num().Int64()), int(product.Denom().Int64()))
	})
}

func cell(frame, num, den int) api.SpectrumCell {
	return api.SpectrumCell{Frame: frame, Gain: api.Frac{Num: num, Den: den}}
}

// itself returns what a cell of a frame is without edits.
func itself(frame int) api.SpectrumCell {
	return cell(frame, 1, 1)
}

// rendered is the document's definition: each entry of the table is a bin with its mirror image.
func rendered(t *testing.T, l []api.SpectrumEdit, x []int) ([]int, api.Errno) {
	t.Helper()
	var table [tableFrames][5][2]turned
	silence := transformed([8]int{})
	for f := range table {
		s := silence
		if f < frameCount(len(x)) {
			s = transformed(frameAt(x, f))
		}
		for k := range table[f] {
			table[f][k] = [2]turned{s[k], s[(8-k)%8]}
		}
	}
	table = applied(l, table, func(pair [2]turned, factor *big.Rat) [2]turned {
		return [2]turned{pair[0].scaled(factor), pair[1].scaled(factor)}
	})
	var frames [][8]root
	for f := range frameCount(len(x)) {
		var s [8]turned
		for k, pair := range table[f] {
			s[k], s[(8-k)%8] = pair[0], pair[1]
		}
		var values [8]root
		for n := range values {
			values[n] = sumOf(s, n, 8).realPart(t)
		}
		frames = append(frames, values)
	}
	var y []int
	for i := range x {
		b, p := i/4, i%4
		n := mean(frames[b][4+p], 7-2*p, frames[b+1][p], 2*p+1).rounded()
		if n > maxSample || n < -maxSample {
			return nil, api.ErrBreak
		}
		y = append(y, n)
	}
	return y, api.OK
}
