package transfer_test

import (
	"math"
	"strings"
	"testing"

	"lacquer/api"
	"lacquer/transfer"
)

// P1.6, example 7
func TestFormatBlock(t *testing.T) {
	for _, x := range []struct {
		b    api.TransferBlock
		want string
	}{
		{api.TransferBlock{Counter: 5, Sum: 27}, "5 0 0 0 0 0 0 0 0 0 27"},
		{api.TransferBlock{Counter: 1, Channel: 2, Samples: [8]int{3, -4, 5, -6, 7, 8, 9, 10}, Sum: 11}, "1 2 3 -4 5 -6 7 8 9 10 11"},
		{api.TransferBlock{Counter: -1, Channel: -2, Sum: -3}, "-1 -2 0 0 0 0 0 0 0 0 -3"},
		{api.TransferBlock{Counter: math.MinInt, Channel: math.MaxInt, Samples: [8]int{1234567}, Sum: 1}, "-9223372036854775808 9223372036854775807 1234567 0 0 0 0 0 0 0 1"},
	} {
		if s := transfer.FormatBlock(x.b); s != x.want {
			t.Errorf("%q, want %q", s, x.want)
		}
	}
}

// P1.12
func TestParseBlockReversesFormatBlock(t *testing.T) {
	for _, b := range sampleBlocks() {
		s := transfer.FormatBlock(b)
		if x, e := transfer.ParseBlock(s); e != api.OK || x != b {
			t.Error(s, x, e)
		}
	}
}

func wantNoBlock(t *testing.T, s string, want api.Errno) {
	t.Helper()
	b, e := transfer.ParseBlock(s)
	wantError(t, s, e, want)
	if b != (api.TransferBlock{}) {
		t.Error(s, b)
	}
}

// P1.6
func TestParseBlockSyntax(t *testing.T) {
	for _, s := range []string{
		"", " ", "5", "5 0 0 0 0 0 0 0 0 0", "5 0 0 0 0 0 0 0 0 0 27 0", "5 0 0 0 0 0 0 0 0 0 27 ", " 5 0 0 0 0 0 0 0 0 0 27",
		"5  0 0 0 0 0 0 0 0 0 27", "5 0 0 0 0 0 0 0 0  0 27", "5 0 0 0 0 0 0 0 0 0  27", "5\t0 0 0 0 0 0 0 0 0 27", "5 0 0 0 0 0 0 0 0 0 27\n",
		"5 0 0 0 0 0 0 0 0 0 ", "5,0,0,0,0,0,0,0,0,0,27", "5 0 x 0 0 0 0 0 0 0 27", "5 0 0 0 0 0 0 0 0 0 1b", "5 0 0 0 0 0 0 0 0 0 2/7",
		"5 0 0 0 0 0 0 0 0 0 2:", "5 0 0 0 0 0 0 0 0 0 0x1b", "5 0 0 0 0 0 0 0 0 0 2_7", "5 0 0 0 0 0 0 0 0 0 2.7",
		"5 0 -0 0 0 0 0 0 0 0 27", "5 0 0 0 0 0 0 0 0 -0 27", "5 0 - 0 0 0 0 0 0 0 27", "5 0 --1 0 0 0 0 0 0 0 27", "5 0 -01 0 0 0 0 0 0 0 27",
		"5 0 +1 0 0 0 0 0 0 0 27", "5 0 1- 0 0 0 0 0 0 0 27", "5 0 0-1 0 0 0 0 0 0 0 27", "+5 0 0 0 0 0 0 0 0 0 27",
		"-5 0 0 0 0 0 0 0 0 0 27", "5 -1 0 0 0 0 0 0 0 0 27", "5 0 0 0 0 0 0 0 0 0 -27", "-0 0 0 0 0 0 0 0 0 0 27", "5 -0 0 0 0 0 0 0 0 0 27", "5 0 0 0 0 0 0 0 0 0 -0",
		"05 0 0 0 0 0 0 0 0 0 27", "5 00 0 0 0 0 0 0 0 0 27", "5 0 00 0 0 0 0 0 0 0 27", "5 0 0 0 0 0 0 0 0 0 027", "5 0 0 0 0 0 0 0 0 0 000027",
		"1000000 0 0 0 0 0 0 0 0 0 27", "5 0 1000000 0 0 0 0 0 0 0 27", "5 0 -1000000 0 0 0 0 0 0 0 27", "5 0 0 0 0 0 0 0 0 0 1000000",
		"99999999999999999999 0 0 0 0 0 0 0 0 0 27", "5 0 0 0 0 0 0 0 0 0 \xd9\xa7", strings.Repeat("0 ", 100000), strings.Repeat("1", 100000),
		"70000 9 99999 0 0 0 0 0 0 0 x",
	} {
		wantNoBlock(t, s, api.ErrSyntax)
	}
}

// P1.6: of several errors the syntax comes first, then the ranges, then the checksum.
func TestParseBlockErrors(t *testing.T) {
	for _, s := range []string{
		"65536 0 0 0 0 0 0 0 0 0 27", "999999 0 0 0 0 0 0 0 0 0 27", "5 4 0 0 0 0 0 0 0 0 27", "5 999999 0 0 0 0 0 0 0 0 27",
		"5 0 32768 0 0 0 0 0 0 0 27", "5 0 -32768 0 0 0 0 0 0 0 27", "5 0 0 0 0 0 0 0 0 999999 27", "5 0 0 0 0 0 0 0 0 -999999 27",
	} {
		wantNoBlock(t, s, api.ErrRange)
	}
	for _, s := range []string{"5 0 0 0 0 0 0 0 0 0 28", "5 0 0 0 0 0 0 0 0 0 0", "5 0 0 0 0 0 0 0 0 0 65564", "5 0 0 0 0 0 0 0 0 0 999999", "5 0 1 0 0 0 0 0 0 0 27"} {
		wantNoBlock(t, s, api.ErrSum)
	}
}

// P1.6
func TestFormatCarrier(t *testing.T) {
	for _, x := range []struct {
		c    api.TransferCarrier
		want string
	}{
		{carrier("lp", api.TransferDisc, 2, 100, 3), "lp disc 2 100/3"},
		{carrier("edison", api.TransferCylinder, 1, 160, 1), "edison cylinder 1 160/1"},
		{carrier("reel", api.TransferTape, 1, 381, 2), "reel tape 1 381/2"},
		{carrier("", api.TransferTape, -1, -2, 0), " tape -1 -2/0"},
		{carrier("lp", -1, 2, 100, 3), ""},
		{carrier("lp", 3, 2, 100, 3), ""},
		{carrier("lp", math.MinInt, 2, 100, 3), ""},
		{carrier("lp", math.MaxInt, 2, 100, 3), ""},
	} {
		if s := transfer.FormatCarrier(x.c); s != x.want {
			t.Errorf("%q, want %q", s, x.want)
		}
	}
}

// P1.12
func TestParseCarrierReversesFormatCarrier(t *testing.T) {
	for _, c := range validCarriers() {
		s := transfer.FormatCarrier(c)
		if x, e := transfer.ParseCarrier(s); e != api.OK || x != c {
			t.Error(s, x, e)
		}
	}
}

// P1.6
func TestParseCarrierErrors(t *testing.T) {
	for _, x := range []struct {
		want api.Errno
		list []string
	}{
		{api.ErrSyntax, []string{
			"", "lp", "lp disc", "lp disc 2", "lp disc 2 100/3 x", "lp disc 2 100/3 ", " lp disc 2 100/3", " disc 2 100/3", "lp  2 100/3", "lp disc  100/3", "lp disc 2 ",
			"lp  disc 2 100/3", "lp disc  2 100/3", "lp disc 2  100/3", "lp Disc 2 100/3", "lp discs 2 100/3", "lp dis 2 100/3", "lp 0 2 100/3", "lp record 2 100/3",
			"lp disc x 100/3", "lp disc -1 100/3", "lp disc +1 100/3", "lp disc 02 100/3", "lp disc 1000000 100/3", "lp disc 2. 100/3",
			"lp disc 2 100", "lp disc 2 100/", "lp disc 2 /3", "lp disc 2 /", "lp disc 2 100//3", "lp disc 2 100/3/1", "lp disc 2 100:3", "lp disc 2 -100/3", "lp disc 2 100/-3",
			"lp disc 2 +100/3", "lp disc 2 0100/3", "lp disc 2 100/03", "lp disc 2 1000000/3", "lp disc 2 100/1000000", "lp disc 2 100 /3", "lp disc 2 -0/1", "lp disc 2 00/1",
			"lp\tdisc 2 100/3", "lp disc 2 100/3\n", "9 x 2 100/3", "9 disc 9 1/x", strings.Repeat("a ", 100000),
		}},
		{api.ErrName, []string{"9 disc 2 100/3", "- disc 2 100/3", "l_p disc 3 100/0", "abcdefghijklm tape 2 2/2", "\xff disc 2 100/3"}},
		{api.ErrRange, []string{"lp disc 0 100/3", "lp disc 3 100/0", "lp tape 999999 2/2", "lp disc 1 0/1", "lp disc 1 10001/1", "lp disc 1 1/10001", "lp disc 1 999999/1"}},
		{api.ErrForm, []string{"lp tape 2 100/3", "lp cylinder 2 100/3", "lp disc 2 100/4", "lp disc 2 100/0", "lp disc 2 0/0", "lp disc 2 0/2", "lp disc 1 20002/2"}},
	} {
		for _, s := range x.list {
			c, e := transfer.ParseCarrier(s)
			wantError(t, s, e, x.want)
			if c != (api.TransferCarrier{}) {
				t.Error(s, c)
			}
		}
	}
}
