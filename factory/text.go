package factory

import (
	"strconv"
	"strings"

	"theodolite/api"
)

// mostDigits is how many digits a number has at most.
const mostDigits = 9

// spell goes through the text of s's kind: word is told each of its words, number each of its numbers, and tells the one to go on with.
// A text is read and written by this one way, so that neither can differ from the other.
func spell(s api.Spec, word func(string), number func(int) int) api.Spec {
	switch kind(s.Kind) {
	case flat:
		word("Flat")
	case kd:
		word("KD")
		s.Size = number(s.Size)
	case vp:
		word("VP")
		s.Size = number(s.Size)
	case ivf:
		word("IVF")
		s.Size = number(s.Size)
		word(",Flat")
	case pq:
		word("IVF")
		s.Size = number(s.Size)
		word(",PQ")
		s.Parts = number(s.Parts)
		word("x")
		s.Codes = number(s.Codes)
	case hnsw:
		word("HNSW")
		s.Size = number(s.Size)
	}
	return s
}

// read tells the spec of kind k that the text says, and whether it has just that kind's form, be its numbers as they may.
func read(text string, k kind) (api.Spec, bool) {
	could := true
	cut := func(front string) {
		rest, found := strings.CutPrefix(text, front)
		text, could = rest, could && found
	}
	number := func(int) int {
		digits := text[:digitsOf(text)]
		could = could && isNumber(digits)
		cut(digits)
		// It fails only at digits that are no number, of which nothing is told.
		n, _ := strconv.Atoi(digits)
		return n
	}
	s := spell(api.Spec{Kind: api.Kind(k)}, cut, number)
	return s, could && text == ""
}

// write tells the text of a spec that may be.
func write(s api.Spec) string {
	var text strings.Builder
	word := func(w string) { text.WriteString(w) }
	number := func(n int) int {
		text.WriteString(strconv.Itoa(n))
		return n
	}
	spell(s, word, number)
	return text.String()
}

// digitsOf tells how many digits stand at the text's front.
func digitsOf(text string) int {
	n := 0
	for n < len(text) && text[n] >= '0' && text[n] <= '9' {
		n++
	}
	return n
}

// isNumber tells whether the digits are as many as may be, without noughts in front.
func isNumber(digits string) bool {
	if len(digits) < 1 || len(digits) > mostDigits {
		return false
	}
	return digits == "0" || digits[0] != '0'
}
