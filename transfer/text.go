package transfer

import (
	"strconv"
	"strings"

	"lacquer/api"
)

const (
	maxDigits    = 6
	blockWords   = 11
	firstSample  = 2 // the word of a block's first sample
	carrierWords = 4
)

var kindWords = [api.TransferCarriers]string{"disc", "cylinder", "tape"}

// FormatBlock returns the string of a block (P1.6).
func FormatBlock(b api.TransferBlock) string {
	words := []string{strconv.Itoa(b.Counter), strconv.Itoa(b.Channel)}
	for _, sample := range b.Samples {
		words = append(words, strconv.Itoa(sample))
	}
	words = append(words, strconv.Itoa(b.Sum))
	return strings.Join(words, " ")
}

// ParseBlock returns the block with this string (P1.6).
func ParseBlock(s string) (api.TransferBlock, api.Errno) {
	numbers, ok := blockNumbers(s)
	if !ok {
		return api.TransferBlock{}, api.ErrSyntax
	}
	b := api.TransferBlock{Counter: numbers[0], Channel: numbers[1], Sum: numbers[blockWords-1]}
	copy(b.Samples[:], numbers[firstSample:])
	if e := CheckBlock(b); e != api.OK {
		return api.TransferBlock{}, e
	}
	return b, api.OK
}

// FormatCarrier returns the string of a carrier (P1.6).
func FormatCarrier(c api.TransferCarrier) string {
	if c.Kind < 0 || c.Kind >= api.TransferCarriers {
		return ""
	}
	speed := strconv.Itoa(c.Speed.Num) + "/" + strconv.Itoa(c.Speed.Den)
	return strings.Join([]string{c.Name, kindWords[c.Kind], strconv.Itoa(c.Sides), speed}, " ")
}

// ParseCarrier returns the carrier with this string (P1.6).
func ParseCarrier(s string) (api.TransferCarrier, api.Errno) {
	c, ok := carrierIn(s)
	if !ok {
		return api.TransferCarrier{}, api.ErrSyntax
	}
	if e := CheckCarrier(c); e != api.OK {
		return api.TransferCarrier{}, e
	}
	return c, api.OK
}

func blockNumbers(s string) ([blockWords]int, bool) {
	var numbers [blockWords]int
	words, ok := wordsOf(s, blockWords)
	if !ok {
		return numbers, false
	}
	for i, word := range words {
		read := numberOf
		if i >= firstSample && i < firstSample+api.TransferLength {
			read = signedNumberOf
		}
		if numbers[i], ok = read(word); !ok {
			return numbers, false
		}
	}
	return numbers, true
}

func carrierIn(s string) (api.TransferCarrier, bool) {
	words, ok := wordsOf(s, carrierWords)
	if !ok || words[0] == "" {
		return api.TransferCarrier{}, false
	}
	num, den, _ := strings.Cut(words[3], "/")
	kind, kindOK := kindOf(words[1])
	sides, sidesOK := numberOf(words[2])
	speedNum, numOK := numberOf(num)
	speedDen, denOK := numberOf(den)
	c := api.TransferCarrier{Name: words[0], Kind: kind, Sides: sides, Speed: api.Frac{Num: speedNum, Den: speedDen}}
	return c, kindOK && sidesOK && numOK && denOK
}

// wordsOf returns the parts of a string between single blanks, if there are count of them. Parts may be empty.
func wordsOf(s string, count int) ([]string, bool) {
	words := strings.SplitN(s, " ", count+1)
	return words, len(words) == count
}

func kindOf(word string) (int, bool) {
	for kind := range api.TransferCarriers {
		if word == kindWords[kind] {
			return kind, true
		}
	}
	return 0, false
}

func numberOf(word string) (int, bool) {
	if len(word) == 0 || len(word) > maxDigits || len(word) > 1 && word[0] == '0' {
		return 0, false
	}
	n := 0
	for i := range len(word) {
		if !isDigit(word[i]) {
			return 0, false
		}
		n = 10*n + int(word[i]-'0')
	}
	return n, true
}

// signedNumberOf permits "-" before a number other than 0.
func signedNumberOf(word string) (int, bool) {
	digits, negative := strings.CutPrefix(word, "-")
	n, ok := numberOf(digits)
	if negative {
		return -n, ok && n != 0
	}
	return n, ok
}
