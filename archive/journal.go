package archive

import (
	"strings"

	"lacquer/api"
)

const (
	sumFactor = 31
	sumDigits = 5
)

// SumOf returns the sum of a string (P10.6).
func SumOf(s string) int {
	sum := 1
	for i := range len(s) {
		sum = nextSum(sum, int(s[i]))
	}
	return sum
}

// SignalSum returns the sum of a signal (P10.6).
func SignalSum(x []int) (int, api.Errno) {
	if len(x) > api.MaxSessionSignal {
		return 0, api.ErrLarge
	}
	for _, sample := range x {
		if sample < -api.MaxSample || sample > api.MaxSample {
			return 0, api.ErrRange
		}
	}
	return sumOfSamples(x), api.OK
}

// Journal returns the journal of a log (P10.6).
func Journal(h api.ArchiveHouse, l []api.ArchiveEntry) (string, api.Errno) {
	if _, e := CheckLog(h, l); e != api.OK {
		return "", e
	}
	journal := ""
	for _, x := range l {
		journal += line(x.By, x.Text, SumOf(x.By+" "+x.Text))
	}
	return journal, api.OK
}

// Recover returns the log of a journal, or the error of the first of its lines that has one, with the index of this line (P10.6).
func Recover(h api.ArchiveHouse, s string) ([]api.ArchiveEntry, int, api.Errno) {
	if _, e := CheckHouse(h); e != api.OK {
		return nil, 0, e
	}
	if strings.Count(s, "\n") > api.MaxArchiveLog {
		return nil, 0, api.ErrLarge
	}
	lines := strings.Split(s, "\n")
	// What follows the last line feed was not written to its end.
	lines = lines[:len(lines)-1]
	var log []api.ArchiveEntry
	for i, text := range lines {
		x, e := entryIn(text)
		if e != api.OK {
			return nil, i, e
		}
		log = append(log, x)
	}
	if i, e := CheckLog(h, log); e != api.OK {
		return nil, i, e
	}
	return log, 0, api.OK
}

// entryIn returns the entry of a line of a journal, which may have errors.
func entryIn(text string) (api.ArchiveEntry, api.Errno) {
	first, last := strings.Index(text, " "), strings.LastIndex(text, " ")
	if first == last {
		return api.ArchiveEntry{}, api.ErrSyntax
	}
	sum, ok := numberOf(text[last+1:], sumDigits)
	e := firstError(
		when(!ok, api.ErrSyntax),
		when(sum != SumOf(text[:last]), api.ErrSum))
	if e != api.OK {
		return api.ArchiveEntry{}, e
	}
	return api.ArchiveEntry{By: text[:first], Text: text[first+1 : last]}, api.OK
}

func sumOfSamples(x []int) int {
	sum := 1
	for _, sample := range x {
		sum = nextSum(sum, sample+api.MaxSample)
	}
	return sum
}

func nextSum(sum, n int) int {
	return (sum*sumFactor + n) % api.ArchivePrime
}
