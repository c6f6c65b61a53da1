package archive_test

import (
	"fmt"
	"math"
	"math/rand/v2"
	"strconv"
	"strings"
	"testing"

	"lacquer/api"
	"lacquer/archive"
)

const maxSample = 32767

// shown returns the results of a call as a string in which a nil slice and an empty one are alike.
func shown(results ...any) string {
	return fmt.Sprintf("%+v\n", results)
}

func expect(t *testing.T, what any, got, want string) {
	t.Helper()
	if got != want {
		t.Errorf("%s: %swant %s", brief(what), brief(got), brief(want))
	}
}

func brief(what any) string {
	s := fmt.Sprintf("%+v", what)
	return s[:min(len(s), 1500)]
}

// beyond returns numbers that are just beyond the limits lo and hi, and extreme ones.
func beyond(lo, hi int) []int {
	return []int{lo - 1, hi + 1, math.MinInt, math.MinInt + 1, math.MaxInt - 1, math.MaxInt}
}

// dice returns a source of numbers that are always the same.
func dice(seed uint64) *rand.Rand {
	return rand.New(rand.NewPCG(seed, 10))
}

// between returns a number from lo to hi.
func between(d *rand.Rand, lo, hi int) int {
	return lo + d.IntN(hi-lo+1)
}

func oneOf[T any](d *rand.Rand, l []T) T {
	return l[d.IntN(len(l))]
}

func person(name string, role int) api.ArchivePerson {
	return api.ArchivePerson{Name: name, Role: role}
}

func people(l ...api.ArchivePerson) api.ArchiveHouse {
	return api.ArchiveHouse{People: l}
}

// house returns the house of the examples.
func house() api.ArchiveHouse {
	return people(person("kim", api.ArchiveKeeper), person("ray", api.ArchiveRestorer), person("tea", api.ArchiveTechnician), person("lee", api.ArchiveReader))
}

// entry returns the entry of "name: text".
func entry(s string) api.ArchiveEntry {
	by, text, _ := strings.Cut(s, ": ")
	return api.ArchiveEntry{By: by, Text: text}
}

func entries(l ...string) []api.ArchiveEntry {
	var x []api.ArchiveEntry
	for _, s := range l {
		x = append(x, entry(s))
	}
	return x
}

func result(project, step string) api.ArchiveResult {
	return api.ArchiveResult{Project: project, Step: step}
}

// block returns the string of a block of the channel 0, the samples of which begin with some.
func block(counter int, some ...int) string {
	return blockOf(counter, 0, some...)
}

func blockOf(counter, channel int, some ...int) string {
	samples := make([]int, 8)
	copy(samples, some)
	sum := 9*counter + 10*channel
	text := strconv.Itoa(counter) + " " + strconv.Itoa(channel)
	for i, x := range samples {
		sum += (i + 1) * (x + 32768)
		text += " " + strconv.Itoa(x)
	}
	return text + " " + strconv.Itoa(sum%65537)
}

// example returns the log of the first example.
func example(more ...string) []api.ArchiveEntry {
	l := entries("kim: carrier d disc 1 78/1", "tea: block d 0 0 1 2 3 4 5 6 7 8 186", "ray: project p d", "ray: step p add +loud:gain:d:ray:0:2/1")
	return append(l, entries(more...)...)
}

// rich returns a log with several carriers, projects and steps.
func rich(more ...string) []api.ArchiveEntry {
	l := entries(
		"kim: carrier d disc 1 78/1", "kim: carrier c tape 1 100/3", "kim: carrier e cylinder 1 160/1",
		"tea: block d "+block(0, 1, 2, 3), "tea: block c "+block(7, 10, -20, 30), "tea: block d "+block(1, 4),
		"ray: project p d,c", "ray: project q d",
		"ray: step p add +loud:gain:d:ray:0:2/1", "ray: step p add +soft:gain:c:ray:1:1/2", "ray: step p add +both:join:soft,loud:ray:2:8,0 0 0", "ray: step p add +none:gain:c:ray:0:0/1", "ray: step p undo none", "ray: step q add +a:gain:d:ray:0:-1/1")
	return append(l, entries(more...)...)
}

// many returns count entries that are permitted after any log.
func many(count int) []api.ArchiveEntry {
	var l []api.ArchiveEntry
	for i := range count {
		l = append(l, entry("lee: note "+strconv.Itoa(i)))
	}
	return l
}

func wrongNames() []string {
	return []string{"", "1a", "-a", "-", "9", "a_b", "a b", " a", "a ", "\u00e4", "a\u00e4", "a\x00", "a.", "@a", "[a", "`a", "{a", "a/", "a:", "a,b", "aaaaaaaaaaaaa", strings.Repeat("a", 100000)}
}

func rightNames() []string {
	return []string{"a", "A", "z", "Z", "a-", "a9", "Z0-", "aaaaaaaaaaaa", "a-----------"}
}

// isWord says whether a name may be a word of an entry.
func isWord(name string) bool {
	return name != "" && len(name) < 20 && strings.IndexFunc(name, func(c rune) bool { return c <= ' ' || c > '~' }) < 0
}

// badHouse is a house with its error, and the index of the person.
type badHouse struct {
	h     api.ArchiveHouse
	index int
	e     api.Errno
}

func housesWithErrors() []badHouse {
	staff := func(count int) []api.ArchivePerson {
		var l []api.ArchivePerson
		for i := range count {
			l = append(l, person("n"+strconv.Itoa(i), i%4))
		}
		return l
	}
	kim := person("kim", api.ArchiveKeeper)
	l := []badHouse{
		{people(), 0, api.ErrShape}, {people([]api.ArchivePerson{}...), 0, api.ErrShape},
		{people(staff(13)...), 0, api.ErrLarge}, {people(make([]api.ArchivePerson, 13)...), 0, api.ErrLarge}, {people(staff(1000)...), 0, api.ErrLarge},
		{people(kim, kim), 1, api.ErrExists}, {people(kim, person("ray", 1), person("kim", 0)), 2, api.ErrExists}, {people(append(staff(11), person("n0", 3))...), 11, api.ErrExists},
		{people(person("ray", api.ArchiveRestorer)), 0, api.ErrNone}, {people(person("ray", 2), person("tea", 1), person("lee", 0)), 0, api.ErrNone}, {people(staff(3)...), 0, api.ErrNone},
		// Of several errors the first one.
		{people(person("", 4), kim), 0, api.ErrName}, {people(kim, person("kim", 4)), 1, api.ErrExists}, {people(person("ray", 4), person("", 0)), 0, api.ErrKind}, {people(person("ray", 0), person("ray", 0)), 1, api.ErrExists}, {people(person("ray", 0), person("lee", -1)), 1, api.ErrKind}, {people(kim, person("", 0), kim), 1, api.ErrName},
	}
	for _, name := range wrongNames() {
		l = append(l, badHouse{people(person(name, 3)), 0, api.ErrName}, badHouse{people(kim, person("lee", 0), person(name, 0)), 2, api.ErrName})
	}
	for _, role := range beyond(0, 3) {
		l = append(l, badHouse{people(person("kim", role)), 0, api.ErrKind}, badHouse{people(kim, person("lee", 0), person("a", role), kim), 2, api.ErrKind})
	}
	return l
}

// badLog is a log of the house of the examples with its error, and the index of the entry.
type badLog struct {
	l     []api.ArchiveEntry
	index int
	e     api.Errno
}

func logsWithErrors() []badLog {
	return []badLog{
		{many(61), 0, api.ErrLarge}, {make([]api.ArchiveEntry, 61), 0, api.ErrLarge}, {make([]api.ArchiveEntry, 1000), 0, api.ErrLarge},
		{make([]api.ArchiveEntry, 60), 0, api.ErrMissing}, {entries("zoe: note x"), 0, api.ErrMissing}, {example("lee: day 3"), 4, api.ErrAllowed}, {example("tea: day 3", "tea: day 2"), 5, api.ErrOrder},
		{append(many(59), entry("lee: sing")), 59, api.ErrSyntax}, {entries("tea: day x", "zoe: note "), 0, api.ErrForm}, {entries("kim: carrier d disc 1 78/1", "kim: carrier d disc 1 78/1", "zoe: note "), 1, api.ErrExists},
		// An entry that comes too early.
		{entries("ray: project p d", "kim: carrier d disc 1 78/1"), 0, api.ErrMissing}, {example("ray: test p 0")[1:], 0, api.ErrMissing}, {entries("kim: carrier d disc 1 78/1", "ray: project p d", "tea: block d 0 0 1 2 3 4 5 6 7 8 186"), 1, api.ErrNone},
	}
}

// mustBe expects that a log is valid.
func mustBe(t *testing.T, l []api.ArchiveEntry) {
	t.Helper()
	if i, e := archive.CheckLog(house(), l); i != 0 || e != api.OK {
		t.Fatal(brief(l), i, e)
	}
}

// stateOf returns the state after a log of the house of the examples.
func stateOf(t *testing.T, l []api.ArchiveEntry) api.ArchiveState {
	t.Helper()
	s, e := archive.StateOf(house(), l)
	if e != api.OK {
		t.Fatal(brief(l), e)
	}
	return s
}
