package archive_test

import (
	"math/big"
	"slices"
	"strconv"
	"strings"
	"testing"

	"lacquer/api"
	"lacquer/archive"
)

// sumOf is the sum of numbers as a polynomial.
func sumOf(numbers []int) int {
	sum := big.NewInt(1)
	for _, n := range numbers {
		sum.Mul(sum, big.NewInt(31)).Add(sum, big.NewInt(int64(n)))
	}
	return int(sum.Mod(sum, big.NewInt(65521)).Int64())
}

// P10.6, example 5
func TestSumOf(t *testing.T) {
	for s, want := range map[string]int{"": 1, "a": 128, "\x00": 31, "\xff": 286, "ab": 128*31 + 98} {
		expect(t, s, shown(archive.SumOf(s)), shown(want))
	}
	d := dice(7)
	for range 300 {
		var numbers []int
		text := make([]byte, d.IntN(400))
		for i := range text {
			text[i] = byte(d.IntN(256))
			numbers = append(numbers, int(text[i]))
		}
		expect(t, text, shown(archive.SumOf(string(text))), shown(sumOf(numbers)))
	}
	expect(t, "long", shown(archive.SumOf(strings.Repeat("\xff", 1000))), shown(sumOf(slices.Repeat([]int{255}, 1000))))
}

// P10.6, example 5
func TestSignalSum(t *testing.T) {
	expect(t, "empty", shown(archive.SignalSum(nil)), shown(1, api.OK))
	expect(t, "zero", shown(archive.SignalSum([]int{0})), shown(32798, api.OK))
	expect(t, "lowest", shown(archive.SignalSum([]int{-maxSample})), shown(31, api.OK))
	expect(t, "highest", shown(archive.SignalSum([]int{maxSample})), shown(31+2*maxSample-65521, api.OK))
	d := dice(8)
	for range 300 {
		x, numbers := make([]int, d.IntN(257)), []int{}
		for i := range x {
			x[i] = between(d, -maxSample, maxSample)
			numbers = append(numbers, x[i]+maxSample)
		}
		expect(t, x, shown(archive.SignalSum(x)), shown(sumOf(numbers), api.OK))
	}
	for _, count := range []int{257, 1000, 100000} {
		x := make([]int, count)
		x[0] = maxSample + 1
		expect(t, count, shown(archive.SignalSum(x)), shown(0, api.ErrLarge))
	}
	expect(t, "full", shown(archive.SignalSum(make([]int, 256))), shown(sumOf(slices.Repeat([]int{maxSample}, 256)), api.OK))
	for _, n := range beyond(-maxSample, maxSample) {
		for _, at := range []int{0, 1, 255} {
			x := make([]int, 256)
			x[at] = n
			expect(t, x, shown(archive.SignalSum(x)), shown(0, api.ErrRange))
		}
	}
}

// lined returns a line of a journal, with its sum.
func lined(s string) string {
	return s + " " + strconv.Itoa(sumOfText(s)) + "\n"
}

func sumOfText(s string) int {
	var numbers []int
	for i := range len(s) {
		numbers = append(numbers, int(s[i]))
	}
	return sumOf(numbers)
}

func journalOf(l []api.ArchiveEntry) string {
	journal := ""
	for _, x := range l {
		journal += lined(x.By + " " + x.Text)
	}
	return journal
}

// P10.6, P10.12
func TestJournal(t *testing.T) {
	expect(t, "empty", shown(archive.Journal(house(), nil)), shown("", api.OK))
	expect(t, "empty", shown(archive.Recover(house(), "")), shown([]string{}, 0, api.OK))
	d := dice(9)
	logs := [][]api.ArchiveEntry{example(), rich("lee: hear p loud"), entries("lee: note ", "lee: note  ", "lee: note  x  y  ", "lee: note 7 7"), many(60)}
	for range 20 {
		logs = append(logs, someLog(t, d, 80))
	}
	for _, l := range logs {
		journal := journalOf(l)
		expect(t, l, shown(archive.Journal(house(), l)), shown(journal, api.OK))
		expect(t, l, shown(archive.Recover(house(), journal)), shown(l, 0, api.OK))
		expect(t, l, shown(archive.Recover(house(), journal+"what was cut 7")), shown(l, 0, api.OK))
	}
}

// P10.12, example 8
func TestCutJournals(t *testing.T) {
	l := example("lee: note ", "lee: hear p loud")
	journal := journalOf(l)
	for end := range len(journal) + 1 {
		whole := strings.Count(journal[:end], "\n")
		expect(t, journal[:end], shown(archive.Recover(house(), journal[:end])), shown(l[:whole], 0, api.OK))
	}
}

// P10.12
func TestChangedJournals(t *testing.T) {
	l := example("lee: note ", "lee: hear p loud", "lee: note 0 10101")
	journal := journalOf(l)
	for at := range len(journal) {
		if journal[at] == '\n' || journal[at] == ' ' {
			continue
		}
		line := strings.Count(journal[:at], "\n")
		for b := range 256 {
			if b == int(journal[at]) || b == '\n' || b == ' ' {
				continue
			}
			changed := []byte(journal)
			changed[at] = byte(b)
			x, i, e := archive.Recover(house(), string(changed))
			if len(x) > 0 || i != line || e != api.ErrSum && e != api.ErrSyntax {
				t.Fatal(string(changed), i, e)
			}
		}
	}
}

// P10.6
func TestRecover(t *testing.T) {
	first := lined("lee note x")
	for _, v := range []struct {
		s     string
		index int
		e     api.Errno
	}{
		{strings.Repeat(first, 61), 0, api.ErrLarge}, {strings.Repeat("\n", 61), 0, api.ErrLarge}, {strings.Repeat("\n", 60), 0, api.ErrSyntax}, {strings.Repeat("\n", 100000), 0, api.ErrLarge},
		{"\n", 0, api.ErrSyntax}, {first + "\n", 1, api.ErrSyntax}, {first + "\n" + first, 1, api.ErrSyntax}, {"x\n", 0, api.ErrSyntax}, {"lee 7\n", 0, api.ErrSyntax}, {lined("lee"), 0, api.ErrSyntax}, {lined(""), 0, api.ErrSyntax}, {" \n", 0, api.ErrSyntax}, {"  \n", 0, api.ErrSyntax},
		{"lee note x\n", 0, api.ErrSyntax}, {"lee note 128\n", 0, api.ErrSum}, {"lee note x " + strconv.Itoa(sumOfText("lee note x")+1) + "\n", 0, api.ErrSum}, {"lee note x " + strconv.Itoa(sumOfText("lee note x")-1) + "\n", 0, api.ErrSum},
		{strings.Replace(first, "\n", " \n", 1), 0, api.ErrSyntax}, {strings.Replace(first, "\n", "\r\n", 1), 0, api.ErrSyntax}, {strings.Replace(first, "\n", "x\n", 1), 0, api.ErrSyntax}, {strings.Replace(first, "lee", "tea", 1), 0, api.ErrSum}, {strings.Replace(first, " x", "  x", 1), 0, api.ErrSum},
		{"lee note x 100000\n", 0, api.ErrSyntax}, {"lee note x 99999\n", 0, api.ErrSum}, {"lee note x 65521\n", 0, api.ErrSum},
		// The errors of all lines come before those of the log.
		{lined("zoe note x") + "x\n", 1, api.ErrSyntax}, {lined("zoe note x") + "a b 1\n", 1, api.ErrSum}, {lined("zoe note x") + first, 0, api.ErrMissing}, {first + lined("zoe note x"), 1, api.ErrMissing}, {first + lined("lee sing") + lined("zoe note x"), 1, api.ErrSyntax},
		{"a b 1\n" + "x\n", 0, api.ErrSum}, {"x\n" + "a b 1\n", 0, api.ErrSyntax},
		// The name and the text may be empty, and have bytes that no entry has.
		{lined(" note x"), 0, api.ErrMissing}, {lined("lee "), 0, api.ErrSyntax}, {lined(" "), 0, api.ErrMissing}, {lined("lee  note x"), 0, api.ErrSyntax}, {lined("lee note \x00"), 0, api.ErrForm}, {lined("lee note \u00e4"), 0, api.ErrForm}, {lined("lee " + strings.Repeat("x", 301)), 0, api.ErrLarge}, {lined("lee day 5"), 0, api.ErrAllowed}, {first + first + lined("tea day x"), 2, api.ErrForm},
		{lined("lee\tnote x"), 0, api.ErrMissing}, {lined("lee,note,x y"), 0, api.ErrMissing},
	} {
		expect(t, v, shown(archive.Recover(house(), v.s)), shown([]string{}, v.index, v.e))
	}
	for _, sum := range []string{"+1", "-1", "01", "00001", "0x1", "1.0", "1_0", "", "1e1", "\u0661"} {
		expect(t, sum, shown(archive.Recover(house(), "lee note x "+sum+"\n")), shown([]string{}, 0, api.ErrSyntax))
	}
	for _, s := range []string{"", "x", "lee note x 1", first[:len(first)-1], strings.Repeat("x", 100000)} {
		expect(t, s, shown(archive.Recover(house(), s)), shown([]string{}, 0, api.OK))
		expect(t, s, shown(archive.Recover(house(), first+s)), shown(entries("lee: note x"), 0, api.OK))
	}
	// A number with leading zeros is no number, even if it is the sum, and a number that is only equal to it modulo the prime is not the sum.
	for i := 0; ; i++ {
		text := "lee note " + strconv.Itoa(i)
		if sum := sumOfText(text); sum < 10000 {
			expect(t, text, shown(archive.Recover(house(), text+" 0"+strconv.Itoa(sum)+"\n")), shown([]string{}, 0, api.ErrSyntax))
			expect(t, text, shown(archive.Recover(house(), text+" "+strconv.Itoa(sum+65521)+"\n")), shown([]string{}, 0, api.ErrSum))
			expect(t, text, shown(archive.Recover(house(), lined(text))), shown(entries("lee: note "+strconv.Itoa(i)), 0, api.OK))
			break
		}
	}
	full := strings.Repeat(first, 60)
	log, i, e := archive.Recover(house(), full+"lee note x")
	expect(t, "full", shown(len(log), i, e), shown(60, 0, api.OK))
}
