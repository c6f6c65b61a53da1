package listen

import "lacquer/api"

// CheckMeter returns the error of a meter (P9.1).
func CheckMeter(m api.ListenMeter) api.Errno {
	return firstError(
		from(1, api.MaxListenBlock)(m.Length),
		from(1, m.Length)(m.Hop),
		from(0, api.MaxListenGate)(m.Gate),
		from(api.MinListenPercent, api.MaxListenPercent)(m.Percent))
}

// GatedBlocks returns the numbers of all blocks of a signal that count (P9.1).
func GatedBlocks(m api.ListenMeter, x []int) ([]int, api.Errno) {
	if e := firstError(CheckMeter(m), checkSignal(x)); e != api.OK {
		return nil, e
	}
	return counting(m, energies(m, x)), api.OK
}

// LoudnessOf returns the mean of the squares of the samples of all blocks that count (P9.1).
func LoudnessOf(m api.ListenMeter, x []int) (api.Frac, api.Errno) {
	if e := firstError(CheckMeter(m), checkSignal(x)); e != api.OK {
		return api.Frac{}, e
	}
	blocks := energies(m, x)
	numbers := counting(m, blocks)
	if len(numbers) == 0 {
		return api.Frac{}, api.ErrNone
	}
	sum := 0
	for _, number := range numbers {
		sum += blocks[number]
	}
	loudness := fractionOf(sum, len(numbers)*m.Length)
	if loudness.Num > api.MaxNumber {
		return api.Frac{}, api.ErrLarge
	}
	return loudness, api.OK
}

// energies returns the energies of the blocks of a signal.
func energies(m api.ListenMeter, x []int) []int {
	var l []int
	for start := 0; start+m.Length <= len(x); start += m.Hop {
		l = append(l, energy(x[start:start+m.Length]))
	}
	return l
}

func energy(x []int) int {
	sum := 0
	for _, n := range x {
		sum += n * n
	}
	return sum
}

// counting returns the numbers of the blocks with these energies that count.
func counting(m api.ListenMeter, blocks []int) []int {
	passes := func(energy int) bool { return energy >= m.Gate*m.Length }
	passing, sum := 0, 0
	for _, energy := range blocks {
		if passes(energy) {
			passing++
			sum += energy
		}
	}
	var l []int
	for number, energy := range blocks {
		if passes(energy) && energy*api.MaxListenPercent*passing >= m.Percent*sum {
			l = append(l, number)
		}
	}
	return l
}
