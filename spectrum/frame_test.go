package spectrum_test

import (
	"math/big"
	"math/rand/v2"
	"testing"

	"lacquer/api"
	"lacquer/spectrum"
)

// rebuilt returns the rounded weighted means by the document's definition.
func rebuilt(frames [][8]int, length int) []int {
	var x []int
	for i := range length {
		b, p := i/4, i%4
		whole := func(n int) root { return root{big.NewRat(int64(n), 1), new(big.Rat)} }
		x = append(x, mean(whole(frames[b][4+p]), 7-2*p, whole(frames[b+1][p]), 2*p+1).rounded())
	}
	return x
}

func someFrames(d *rand.Rand, count, limit int) [][8]int {
	var frames [][8]int
	for range count {
		frames = append(frames, [8]int(someNumbers(d, 8, limit)))
	}
	return frames
}

// P6.3, and the edge case of one sample
func TestFramesIn(t *testing.T) {
	for length, want := range []int{0, 2, 2, 2, 2, 3, 3, 3, 3, 4} {
		expect(t, length, shown(spectrum.FramesIn(length)), shown(want, api.OK))
	}
	for length := range 401 {
		expect(t, length, shown(spectrum.FramesIn(length)), shown(frameCount(length), api.OK))
	}
	expect(t, 400, shown(spectrum.FramesIn(400)), shown(101, api.OK))
	for _, length := range beyond(0, 400) {
		expect(t, length, shown(spectrum.FramesIn(length)), shown(0, api.ErrRange))
	}
}

// P6.3, example 5
func TestFrameAt(t *testing.T) {
	x := []int{1, 2, 3, 4, 5}
	for frame, want := range [][8]int{{0, 0, 0, 0, 1, 2, 3, 4}, {1, 2, 3, 4, 5}, {5}} {
		expect(t, frame, shown(spectrum.FrameAt(x, frame)), shown(want, api.OK))
	}
	expect(t, "one sample", shown(spectrum.FrameAt([]int{-7}, 0)), shown([8]int{0, 0, 0, 0, -7}, api.OK))
	expect(t, "one sample", shown(spectrum.FrameAt([]int{-7}, 1)), shown([8]int{-7}, api.OK))
	d := dice(10)
	for _, count := range []int{0, 1, 2, 3, 4, 5, 6, 7, 8, 9, 50, 397, 398, 399, 400} {
		x := someNumbers(d, count, maxSample)
		for frame := range frameCount(count) {
			expect(t, x, shown(spectrum.FrameAt(x, frame)), shown(frameAt(x, frame), api.OK))
		}
		for _, frame := range beyond(0, frameCount(count)-1) {
			expect(t, frame, shown(spectrum.FrameAt(x, frame)), shown([8]int{}, api.ErrMissing))
		}
	}
	expect(t, "no samples", shown(spectrum.FrameAt(nil, 0)), shown([8]int{}, api.ErrMissing))
	for _, bad := range signalsWithErrors() {
		for _, frame := range []int{0, 1, -1, 1000} {
			expect(t, len(bad.x), shown(spectrum.FrameAt(bad.x, frame)), shown([8]int{}, bad.e))
		}
	}
}

// P6.3, example 6, and the edge case of negative halves
func TestRebuilt(t *testing.T) {
	x := []int{1, 2, 3, 4, 5}
	frames := [][8]int{{0, 0, 0, 0, 1, 2, 3, 4}, {1, 2, 3, 4, 5}, {5}}
	expect(t, frames, shown(spectrum.Rebuilt(frames, 5)), shown(x, api.OK))
	frames[1] = [8]int{}
	expect(t, frames, shown(spectrum.Rebuilt(frames, 5)), shown([]int{1, 1, 1, 1, 1}, api.OK))
	// What is outside of the signal does not matter.
	frames = [][8]int{{9, 9, 9, 9, 1, 2, 3, 4}, {1, 2, 3, 4, 5, 9, 9, 9}, {5, 9, 9, 9, 9, 9, 9, 9}}
	expect(t, frames, shown(spectrum.Rebuilt(frames, 5)), shown(x, api.OK))
	for _, v := range []struct{ former, latter, want int }{
		{0, -4, 0}, {0, 4, 1}, {0, -12, -1}, {0, 12, 2}, {0, -5, -1}, {0, 3, 0}, {0, -3, 0}, {-1, 3, 0}, {1, 0, 1}, {-1, 0, -1}, {-1, 1, -1}, {-1, 2, -1},
		{maxSample, maxSample, maxSample}, {-maxSample, -maxSample, -maxSample}, {maxSample, maxSample - 4, maxSample}, {-maxSample, 4 - maxSample, 1 - maxSample},
		{maxSample, maxSample - 8, maxSample - 1}, {-maxSample, 3 - maxSample, -maxSample},
	} {
		frames := [][8]int{{4: v.former}, {v.latter}}
		expect(t, v, shown(spectrum.Rebuilt(frames, 1)), shown([]int{v.want}, api.OK))
	}
	for _, v := range []struct{ former, latter, want []int }{
		{[]int{8, 8, 8, 8}, make([]int, 4), []int{7, 5, 3, 1}},
		{make([]int, 4), []int{-8, -8, -8, -8}, []int{-1, -3, -5, -7}},
		{make([]int, 4), []int{80, 80, 80, 80}, []int{10, 30, 50, 70}},
	} {
		var frames [2][8]int
		copy(frames[0][4:], v.former)
		copy(frames[1][:], v.latter)
		expect(t, v, shown(spectrum.Rebuilt(frames[:], 4)), shown(v.want, api.OK))
	}
	expect(t, "nothing", shown(spectrum.Rebuilt(nil, 0)), shown([]int{}, api.OK))
}

// P6.3
func TestErrorsOfRebuilt(t *testing.T) {
	for _, length := range beyond(0, 400) {
		for _, frames := range [][][8]int{nil, make([][8]int, 2), {{maxSample + 1}}, make([][8]int, 102)} {
			expect(t, length, shown(spectrum.Rebuilt(frames, length)), shown([]int{}, api.ErrRange))
		}
	}
	for length := range 401 {
		count := frameCount(length)
		for _, wrong := range []int{0, 1, 2, count - 1, count + 1, 101, 102} {
			if wrong != count && wrong >= 0 {
				expect(t, length, shown(spectrum.Rebuilt(make([][8]int, wrong), length)), shown([]int{}, api.ErrShape))
			}
		}
	}
	expect(t, "one frame", shown(spectrum.Rebuilt([][8]int{{maxSample + 1}}, 1)), shown([]int{}, api.ErrShape))
	for _, n := range beyond(-maxSample, maxSample) {
		for frame := range 3 {
			for at := range 8 {
				frames := make([][8]int, 3)
				frames[frame][at] = n
				expect(t, n, shown(spectrum.Rebuilt(frames, 5)), shown([]int{}, api.ErrRange))
			}
		}
	}
}

// P6.3: by the document's definition
func TestSomeFramesRebuilt(t *testing.T) {
	d := dice(11)
	for range 300 {
		length := between(d, 0, 60)
		frames := someFrames(d, frameCount(length), []int{1, 9, maxSample}[d.IntN(3)])
		expect(t, frames, shown(spectrum.Rebuilt(frames, length)), shown(rebuilt(frames, length), api.OK))
	}
}

// P6.8: the frames of a signal, put together again
func TestFramesOfSignalsRebuilt(t *testing.T) {
	d := dice(12)
	for length := range 401 {
		x := someNumbers(d, length, []int{9, maxSample}[d.IntN(2)])
		var frames [][8]int
		for frame := range frameCount(length) {
			samples, e := spectrum.FrameAt(x, frame)
			expect(t, x, shown(e), shown(api.OK))
			s, e := spectrum.EightOf(samples)
			expect(t, x, shown(e), shown(api.OK))
			back, e := spectrum.FromEight(s)
			expect(t, x, shown(e), shown(api.OK))
			frames = append(frames, back)
		}
		expect(t, length, shown(spectrum.Rebuilt(frames, length)), shown(x, api.OK))
	}
}
