package join_test

import (
	"slices"
	"testing"

	"lacquer/api"
	"lacquer/join"
)

// planned returns a plan: for each piece From, Source and Lag.
func planned(length int, pieces ...[3]int) api.JoinPlan {
	p := api.JoinPlan{Length: length}
	for _, n := range pieces {
		p.Pieces = append(p.Pieces, api.JoinPiece{From: n[0], Source: n[1], Lag: n[2]})
	}
	return p
}

// examplePlan returns the plan of the example 6.
func examplePlan() api.JoinPlan {
	return planned(4, [3]int{0, 1, 1}, [3]int{2, 0, 0})
}

// manyPieces returns a plan with count pieces.
func manyPieces(length, count int) api.JoinPlan {
	p := planned(length)
	for i := range count {
		p.Pieces = append(p.Pieces, api.JoinPiece{From: i})
	}
	return p
}

func validPlans() []api.JoinPlan {
	return []api.JoinPlan{
		examplePlan(), planned(1, [3]int{0, 0, 0}), planned(200, [3]int{0, 5, 100}, [3]int{199, 5, -100}), manyPieces(20, 20), manyPieces(200, 20),
		planned(9, [3]int{0, 3, 1}, [3]int{1, 3, 2}, [3]int{8, 3, 1}),
	}
}

// badPlan is a plan with its error, and the index of the piece.
type badPlan struct {
	p     api.JoinPlan
	index int
	e     api.Errno
}

func plansWithErrors() []badPlan {
	piece := [3]int{0, 0, 0}
	l := []badPlan{
		{planned(4), 0, api.ErrShape}, {manyPieces(200, 21), 0, api.ErrLarge}, {manyPieces(200, 200), 0, api.ErrLarge},
		{planned(4, [3]int{1, 0, 0}), 0, api.ErrOrder}, {planned(4, [3]int{4, 0, 0}, piece), 0, api.ErrOrder}, {planned(4, [3]int{-1, 0, 0}), 0, api.ErrOrder},
		{planned(4, piece, piece), 1, api.ErrOrder}, {planned(4, piece, [3]int{-1, 0, 0}), 1, api.ErrOrder}, {planned(4, piece, [3]int{4, 0, 0}), 1, api.ErrOrder}, {planned(4, piece, [3]int{2, 0, 0}, [3]int{2, 1, 0}), 2, api.ErrOrder}, {planned(4, piece, [3]int{3, 0, 0}, [3]int{2, 1, 0}), 2, api.ErrOrder}, {planned(4, piece, [3]int{3, 0, 0}, [3]int{5, 1, 0}), 2, api.ErrOrder}, {manyPieces(19, 20), 19, api.ErrOrder},
		// Of several errors the first one.
		{planned(0), 0, api.ErrRange}, {manyPieces(201, 21), 0, api.ErrRange}, {planned(0, [3]int{1, 0, 0}), 0, api.ErrRange},
		{planned(4, [3]int{1, 6, 0}), 0, api.ErrRange}, {planned(4, [3]int{1, 0, 101}), 0, api.ErrRange}, {planned(4, [3]int{1, 0, 0}, [3]int{1, -1, 0}), 0, api.ErrOrder}, {planned(4, piece, piece, [3]int{2, -1, 0}), 1, api.ErrOrder}, {planned(4, piece, [3]int{0, 6, 0}, piece), 1, api.ErrRange},
		{planned(200, slices.Repeat([][3]int{{7, 7, 101}}, 21)...), 0, api.ErrLarge},
	}
	for _, n := range beyond(1, 200) {
		l = append(l, badPlan{planned(n, piece), 0, api.ErrRange})
	}
	for _, n := range beyond(0, 5) {
		l = append(l, badPlan{planned(4, [3]int{0, n, 0}), 0, api.ErrRange}, badPlan{planned(4, piece, [3]int{2, n, 0}), 1, api.ErrRange})
	}
	for _, n := range beyond(-100, 100) {
		l = append(l, badPlan{planned(4, [3]int{0, 0, n}), 0, api.ErrRange}, badPlan{planned(4, piece, [3]int{2, 0, n}), 1, api.ErrRange})
	}
	for _, n := range beyond(1, 3) {
		l = append(l, badPlan{planned(4, piece, [3]int{n, 0, 0}), 1, api.ErrOrder})
	}
	for _, n := range beyond(0, 0) {
		l = append(l, badPlan{planned(4, [3]int{n, 0, 0}), 0, api.ErrOrder})
	}
	return l
}

// P7.6
func TestCheckPlan(t *testing.T) {
	for _, p := range validPlans() {
		expect(t, p, shown(join.CheckPlan(p)), shown(0, api.OK))
	}
	for _, bad := range plansWithErrors() {
		expect(t, bad, shown(join.CheckPlan(bad.p)), shown(bad.index, bad.e))
		for _, position := range []int{0, -1} {
			expect(t, bad, shown(join.SourceAt(bad.p, position)), shown(0, 0, bad.e))
		}
		for _, signals := range [][][]int{nil, make([][]int, 7), {make([]int, 201)}} {
			expect(t, bad, shown(join.Joined(bad.p, signals)), shown([]int{}, bad.e))
		}
	}
}

// P7.6, example 6
func TestPlanOf(t *testing.T) {
	task, _ := choicesFor()
	all := api.JoinTask{Transfers: transfers(transfer("b", -1, 1, 2, 3, 4, 5, 6, 7, 8), transfer("a", 2, make([]int, 9)...), transfer("c", 0, make([]int, 6)...)), Length: 6, Passage: 1}
	for _, v := range []struct {
		t     api.JoinTask
		names []string
		want  api.JoinPlan
	}{
		{example(), []string{"y", "x"}, examplePlan()},
		{example(), []string{"z", "z"}, planned(4, [3]int{0, 2, 0})},
		{example(), []string{"x", "z"}, planned(4, [3]int{0, 0, 0}, [3]int{2, 2, 0})},
		{task, []string{"y", "x", "x"}, planned(6, [3]int{0, 1, 1}, [3]int{2, 0, -2})},
		{task, []string{"y", "y", "x"}, planned(6, [3]int{0, 1, 1}, [3]int{4, 0, -2})},
		{all, []string{"a", "b", "b", "a", "a", "c"}, planned(6, [3]int{0, 1, 2}, [3]int{1, 0, -1}, [3]int{3, 1, 2}, [3]int{5, 2, 0})},
		{all, []string{"c", "b", "c", "b", "c", "b"}, planned(6, [3]int{0, 2, 0}, [3]int{1, 0, -1}, [3]int{2, 2, 0}, [3]int{3, 0, -1}, [3]int{4, 2, 0}, [3]int{5, 0, -1})},
	} {
		expect(t, v, shown(join.PlanOf(v.t, v.names)), shown(v.want, api.OK))
	}
}

// P7.6, example 6
func TestSourceAt(t *testing.T) {
	p := planned(9, [3]int{0, 3, 1}, [3]int{1, 3, -5}, [3]int{6, 0, 100}, [3]int{8, 5, 0})
	for position, want := range [][2]int{{3, 1}, {3, -4}, {3, -3}, {3, -2}, {3, -1}, {3, 0}, {0, 106}, {0, 107}, {5, 8}} {
		expect(t, position, shown(join.SourceAt(p, position)), shown(want[0], want[1], api.OK))
	}
	expect(t, "example", shown(join.SourceAt(examplePlan(), 1)), shown(1, 2, api.OK))
	for _, position := range beyond(0, 8) {
		expect(t, position, shown(join.SourceAt(p, position)), shown(0, 0, api.ErrRange))
	}
}

// P7.6, example 6, and the edge case of a source with several lags
func TestJoined(t *testing.T) {
	x, y := []int{5, 9, 5, 5}, []int{0, 5, 5, 5, 9}
	six := make([][]int, 6)
	six[5] = []int{7}
	for _, v := range []struct {
		p       api.JoinPlan
		signals [][]int
		want    []int
		e       api.Errno
	}{
		{examplePlan(), [][]int{x, y}, []int{5, 5, 5, 5}, api.OK},
		{examplePlan(), [][]int{y, x}, []int{9, 5, 5, 5}, api.OK},
		{planned(1, [3]int{0, 5, 0}), six, []int{7}, api.OK},
		{planned(5, [3]int{0, 0, 1}, [3]int{2, 0, -2}, [3]int{3, 1, 1}), [][]int{{1, 2, 3}, {0, 0, 0, 0, 8, 9}}, []int{2, 3, 1, 8, 9}, api.OK},
		{planned(200, [3]int{0, 0, 0}), [][]int{slices.Repeat([]int{maxSample}, 200)}, slices.Repeat([]int{maxSample}, 200), api.OK},
		// Of the errors of positions the first one.
		{examplePlan(), nil, nil, api.ErrMissing}, {examplePlan(), [][]int{x}, nil, api.ErrMissing},
		{planned(2, [3]int{0, 0, 0}, [3]int{1, 1, 0}), [][]int{{}}, nil, api.ErrGap},
		{planned(2, [3]int{0, 1, 0}, [3]int{1, 0, 0}), [][]int{{}}, nil, api.ErrMissing},
		{planned(2, [3]int{0, 0, -1}), [][]int{{1, 2, 3}}, nil, api.ErrGap}, {planned(2, [3]int{0, 0, 2}), [][]int{{1, 2, 3}}, nil, api.ErrGap}, {planned(2, [3]int{0, 0, 1}), [][]int{{1, 2, 3}}, []int{2, 3}, api.OK}, {planned(2, [3]int{0, 0, 0}), [][]int{nil}, nil, api.ErrGap},
		// The errors of signals come before, also of those that are not used.
		{planned(1, [3]int{0, 5, 0}), make([][]int, 7), nil, api.ErrLarge},
		{planned(1, [3]int{0, 0, 0}), [][]int{{1}, {maxSample + 1}}, nil, api.ErrRange},
		{planned(1, [3]int{0, 5, 0}), [][]int{{}, {maxSample + 1}, make([]int, 201)}, nil, api.ErrRange},
		{planned(1, [3]int{0, 5, 0}), [][]int{{}, make([]int, 201), {maxSample + 1}}, nil, api.ErrLarge},
		{planned(1, [3]int{0, 0, 0}), slices.Repeat([][]int{{maxSample + 1}}, 7), nil, api.ErrLarge},
	} {
		expect(t, v, shown(join.Joined(v.p, v.signals)), shown(v.want, v.e))
	}
	for _, bad := range signalsWithErrors() {
		expect(t, bad, shown(join.Joined(planned(1, [3]int{0, 0, 0}), [][]int{{1}, bad.x})), shown([]int{}, bad.e))
	}
}

// P7.11 and P7.13: each position is the sample of the chosen transfer, which SourceAt names.
func TestJoinedChoices(t *testing.T) {
	d := dice(10)
	for range 300 {
		x := someTask(d)
		y := x
		y.Transfers = shuffled(d, x.Transfers)
		names, _ := bestOf(x)
		choicesOf(x, func(choice []string, _ int) {
			if d.IntN(4) > 0 && !slices.Equal(choice, names) {
				return
			}
			want := chosenSamples(t, x, choice)
			for _, task := range []api.JoinTask{x, y} {
				p, e := join.PlanOf(task, choice)
				expect(t, task, shown(e), shown(api.OK))
				expect(t, p, shown(join.CheckPlan(p)), shown(0, api.OK))
				signals := signalsOf(task)
				expect(t, p, shown(join.Joined(p, signals)), shown(want, api.OK))
				for position, sample := range want {
					source, index, e := join.SourceAt(p, position)
					if e != api.OK || signals[source][index] != sample || task.Transfers[source].Name != choice[position/x.Passage] {
						t.Error(task, choice, position, source, index, e)
					}
				}
				for i := 1; i < len(p.Pieces); i++ {
					if p.Pieces[i].Source == p.Pieces[i-1].Source {
						t.Error("a run has two pieces:", task, choice, p)
					}
				}
			}
		})
	}
}

// chosenSamples returns for each position the sample of the chosen transfer.
func chosenSamples(t *testing.T, x api.JoinTask, choice []string) []int {
	t.Helper()
	var l []int
	for position := range x.Length {
		for _, y := range x.Transfers {
			if y.Name != choice[position/x.Passage] {
				continue
			}
			sample, ok := sampleAt(y, position)
			if !ok {
				t.Fatal(x, choice)
			}
			l = append(l, sample)
		}
	}
	return l
}

func signalsOf(x api.JoinTask) [][]int {
	var signals [][]int
	for _, y := range x.Transfers {
		signals = append(signals, y.Samples)
	}
	return signals
}
