package listen_test

import (
	"math"
	"strings"
	"testing"

	"lacquer/api"
	"lacquer/listen"
)

// validEvents returns all of them, with their strings.
func validEvents() map[string]api.ListenEvent {
	return map[string]api.ListenEvent{
		"play 0": play(0), "play 1": play(1), "play 2": play(2), "stop": stop(), "answer 0": answer(0), "answer 1": answer(1), "repeat": repeat(),
	}
}

// P9.8, P9.15, example 9
func TestStringsOfEvents(t *testing.T) {
	for s, e := range validEvents() {
		expect(t, s, listen.FormatEvent(e), s)
		expect(t, s, shown(listen.ParseEvent(s)), shown(e, api.OK))
	}
}

// P9.8
func TestStringsOfBadEvents(t *testing.T) {
	for _, v := range []struct {
		e    api.ListenEvent
		want string
	}{
		{play(3), "play 3"}, {play(-1), "play -1"}, {play(math.MinInt), "play -9223372036854775808"}, {answer(2), "answer 2"}, {answer(math.MaxInt), "answer 9223372036854775807"},
		{api.ListenEvent{Kind: api.ListenStop, Number: 5}, "stop"}, {api.ListenEvent{Kind: api.ListenRepeat, Number: -5}, "repeat"},
	} {
		expect(t, v, listen.FormatEvent(v.e), v.want)
	}
	for _, n := range beyond(0, 3) {
		expect(t, n, listen.FormatEvent(api.ListenEvent{Kind: n}), "")
		expect(t, n, listen.FormatEvent(api.ListenEvent{Kind: n, Number: 1}), "")
	}
}

// P9.8
func TestErrorsOfStrings(t *testing.T) {
	for _, v := range []struct {
		e api.Errno
		l []string
	}{
		{api.ErrSyntax, []string{
			"", " ", "0", " 0", "x", "x 0", "Play 0", "PLAY 0", "pla 0", "plays 0", "play0", "lay 0",
			"play", "play ", "play  0", " play 0", "play 0 ", "play 0 1", "play x", "play -1", "play -0", "play +1", "play -", "play 00", "play 01", "play 10", "play 3 ", "play 0\n", "play\t0", "play\n0", "play 0\x00", "play \u0661", "play \x00", "play /", "play :", "play 0x0", "play 0.", "play 9223372036854775808",
			"answer", "answer ", "answer -1", "answer 00", "answer 10", "answer x", "answer  1", "answer 1 ", " answer 1", "answer1",
			"stop ", " stop", "stop 0", "stop 1", "stop 9", "stops", "Stop", "sto", "stop\n", "stop x",
			"repeat ", " repeat", "repeat 0", "repeat 1", "repeats", "Repeat", "repea", "repeat\x00",
			"play 0 stop", "stop play 0", "play stop", "playstop", "play,0", "play/0",
			strings.Repeat("x", 100000), strings.Repeat(" ", 100000), "play " + strings.Repeat("0", 100000),
		}},
		{api.ErrRange, []string{"play 3", "play 4", "play 9", "answer 2", "answer 3", "answer 9"}},
	} {
		for _, s := range v.l {
			expect(t, brief(s), shown(listen.ParseEvent(s)), shown(api.ListenEvent{}, v.e))
		}
	}
}

// P9.8: all strings near those of events
func TestStringsNearEvents(t *testing.T) {
	for valid := range validEvents() {
		for i := range len(valid) + 1 {
			for c := range 256 {
				near := []string{valid[:i] + string([]byte{byte(c)}) + valid[i:]}
				if i < len(valid) {
					near = append(near, valid[:i]+string([]byte{byte(c)})+valid[i+1:], valid[:i]+valid[i+1:])
				}
				for _, s := range near {
					want, isValid := validEvents()[s]
					e := api.OK
					switch {
					case isValid:
					case len(s) == 6 && s[:5] == "play " && s[5] >= '0' && s[5] <= '9', len(s) == 8 && s[:7] == "answer " && s[7] >= '0' && s[7] <= '9':
						e = api.ErrRange
					default:
						e = api.ErrSyntax
					}
					expect(t, s, shown(listen.ParseEvent(s)), shown(want, e))
				}
			}
		}
	}
}
