package factory

import (
	"math"
	"regexp"
	"slices"
	"strconv"
	"strings"
	"testing"

	"theodolite/api"
)

// line is a line of the chapter's table: a form, and the least and the greatest of each number.
type line struct {
	kind             api.Kind
	form             *regexp.Regexp
	low, high        [3]int
	before, mid, end string // the words round the first two numbers, and behind the second
}

const digits = `(0|[1-9][0-9]{0,8})`

// lines is made once: a pattern costs far more than a call that it is held against.
var lines = tableLines()

func tableLines() []line {
	whole := func(s string) *regexp.Regexp { return regexp.MustCompile(`\A` + s + `\z`) }
	return []line{
		{kind: api.KindFlat, form: whole(`Flat`), before: "Flat"},
		{kind: api.KindKd, form: whole(`KD` + digits), low: [3]int{1}, high: [3]int{64}, before: "KD"},
		{kind: api.KindVp, form: whole(`VP` + digits), low: [3]int{1}, high: [3]int{64}, before: "VP"},
		{kind: api.KindIvf, form: whole(`IVF` + digits + `,Flat`), low: [3]int{1}, high: [3]int{64}, before: "IVF", mid: ",Flat"},
		{kind: api.KindPq, form: whole(`IVF` + digits + `,PQ` + digits + `x` + digits), low: [3]int{1, 1, 1}, high: [3]int{64, 8, 16}, before: "IVF", mid: ",PQ", end: "x"},
		{kind: api.KindHnsw, form: whole(`HNSW` + digits), low: [3]int{1}, high: [3]int{16}, before: "HNSW"},
	}
}

// plainCheck is P12.1 by the table.
func plainCheck(s api.Spec) api.Errno {
	for _, l := range lines {
		if l.kind != s.Kind {
			continue
		}
		for i, n := range []int{s.Size, s.Parts, s.Codes} {
			if n < l.low[i] || n > l.high[i] {
				return api.ErrSpecNum
			}
		}
		return api.OK
	}
	return api.ErrSpecForm
}

// plainParse is P12.2 by the table.
func plainParse(text string) (api.Spec, api.Errno) {
	for _, l := range lines {
		found := l.form.FindStringSubmatch(text)
		if found == nil {
			continue
		}
		var n [3]int
		for i, s := range found[1:] {
			n[i], _ = strconv.Atoi(s)
		}
		s := api.Spec{Kind: l.kind, Size: n[0], Parts: n[1], Codes: n[2]}
		if e := plainCheck(s); e != api.OK {
			return api.Spec{}, e
		}
		return s, api.OK
	}
	return api.Spec{}, api.ErrSpecForm
}

// spelt is a text of l's form, with these numbers as far as it has them.
func spelt(l line, size, parts, codes string) string {
	if l.high[0] == 0 {
		return l.before
	}
	if l.high[1] == 0 {
		return l.before + size + l.mid
	}
	return l.before + size + l.mid + parts + l.end + codes
}

// plainPrint is P12.3 by the table.
func plainPrint(s api.Spec) (string, api.Errno) {
	if e := plainCheck(s); e != api.OK {
		return "", e
	}
	l := lines[s.Kind-1]
	return spelt(l, strconv.Itoa(s.Size), strconv.Itoa(s.Parts), strconv.Itoa(s.Codes)), api.OK
}

func checkIs(t *testing.T, s api.Spec, want api.Errno) {
	t.Helper()
	if e := Check(s); e != want {
		t.Errorf("P12.1: Check(%v): %d: want %d", s, e, want)
	}
}

func parseIs(t *testing.T, text string, want api.Spec, wrong api.Errno) {
	t.Helper()
	if s, e := Parse(text); s != want || e != wrong {
		t.Errorf("P12.2: Parse(%q): %v, %d: want %v, %d", text, s, e, want, wrong)
	}
}

func printIs(t *testing.T, s api.Spec, want string, wrong api.Errno) {
	t.Helper()
	if text, e := Print(s); text != want || e != wrong {
		t.Errorf("P12.3: Print(%v): %q, %d: want %q, %d", s, text, e, want, wrong)
	}
}

// asPlain holds Parse against the table, and what it parses against P12.4.
func asPlain(t *testing.T, text string) {
	t.Helper()
	want, wrong := plainParse(text)
	parseIs(t, text, want, wrong)
	if wrong == api.OK {
		printIs(t, want, text, api.OK)
	}
}

// specAsPlain holds Check and Print against the table, and what it prints against P12.4.
func specAsPlain(t *testing.T, s api.Spec) {
	t.Helper()
	checkIs(t, s, plainCheck(s))
	text, e := plainPrint(s)
	printIs(t, s, text, e)
	if e == api.OK {
		parseIs(t, text, s, api.OK)
	}
}

// The chapter's table, line by line.
func TestExamples(t *testing.T) {
	none := api.Spec{}
	parseIs(t, "KD16", api.Spec{Kind: api.KindKd, Size: 16}, api.OK)
	parseIs(t, "IVF8,PQ2x4", api.Spec{Kind: api.KindPq, Size: 8, Parts: 2, Codes: 4}, api.OK)
	parseIs(t, "KD0", none, api.ErrSpecNum)
	parseIs(t, "KD065", none, api.ErrSpecForm)
	parseIs(t, "KD65", none, api.ErrSpecNum)
	parseIs(t, "kd4", none, api.ErrSpecForm)
	parseIs(t, "", none, api.ErrSpecForm)
	parseIs(t, "IVF8", none, api.ErrSpecForm)
	printIs(t, api.Spec{Kind: api.KindIvf, Size: 8}, "IVF8,Flat", api.OK)
	printIs(t, api.Spec{Kind: api.KindFlat, Size: 1}, "", api.ErrSpecNum)
	printIs(t, api.Spec{Kind: 9}, "", api.ErrSpecForm)
}

// The constants of this package are counted; they must stay what api says.
func TestKinds(t *testing.T) {
	mine := []kind{flat, kd, vp, ivf, pq, hnsw}
	given := []api.Kind{api.KindFlat, api.KindKd, api.KindVp, api.KindIvf, api.KindPq, api.KindHnsw}
	for i, k := range given {
		if api.Kind(mine[i]) != k {
			t.Errorf("kind %d is %d here", k, mine[i])
		}
	}
}

// Each number at its bounds, by hand.
func TestCheckBounds(t *testing.T) {
	for _, k := range []api.Kind{api.KindKd, api.KindVp, api.KindIvf} {
		for n, want := range map[int]api.Errno{-1: api.ErrSpecNum, 0: api.ErrSpecNum, 1: api.OK, 64: api.OK, 65: api.ErrSpecNum} {
			checkIs(t, api.Spec{Kind: k, Size: n}, want)
			checkIs(t, api.Spec{Kind: api.KindPq, Size: n, Parts: 1, Codes: 1}, want)
		}
		checkIs(t, api.Spec{Kind: k, Size: 1, Parts: 1}, api.ErrSpecNum)
		checkIs(t, api.Spec{Kind: k, Size: 1, Codes: 1}, api.ErrSpecNum)
		checkIs(t, api.Spec{Kind: k, Size: 1, Parts: -1}, api.ErrSpecNum)
		checkIs(t, api.Spec{Kind: k, Size: 1, Codes: -1}, api.ErrSpecNum)
	}
	for n, want := range map[int]api.Errno{-1: api.ErrSpecNum, 0: api.ErrSpecNum, 1: api.OK, 16: api.OK, 17: api.ErrSpecNum} {
		checkIs(t, api.Spec{Kind: api.KindHnsw, Size: n}, want)
		checkIs(t, api.Spec{Kind: api.KindPq, Size: 1, Parts: 1, Codes: n}, want)
	}
	for n, want := range map[int]api.Errno{-1: api.ErrSpecNum, 0: api.ErrSpecNum, 1: api.OK, 8: api.OK, 9: api.ErrSpecNum} {
		checkIs(t, api.Spec{Kind: api.KindPq, Size: 1, Parts: n, Codes: 1}, want)
	}
	checkIs(t, api.Spec{Kind: api.KindFlat}, api.OK)
	checkIs(t, api.Spec{Kind: api.KindFlat, Size: -1}, api.ErrSpecNum)
	checkIs(t, api.Spec{Kind: api.KindFlat, Parts: 1}, api.ErrSpecNum)
	checkIs(t, api.Spec{Kind: api.KindFlat, Codes: 1}, api.ErrSpecNum)
}

// A kind that is none comes first, whatever the numbers are.
func TestCheckKinds(t *testing.T) {
	for _, k := range []api.Kind{math.MinInt, -1, 0, 7, 8, 9, 257, 1<<32 + 1, math.MaxInt} {
		for _, n := range []int{math.MinInt, -1, 0, 1, 65, math.MaxInt} {
			specAsPlain(t, api.Spec{Kind: k, Size: n, Parts: n, Codes: n})
			checkIs(t, api.Spec{Kind: k, Size: n}, api.ErrSpecForm)
		}
	}
}

// All specs with numbers round the bounds: P12.1, P12.3, P12.4.
func TestAllSpecs(t *testing.T) {
	small := []int{math.MinInt, -1, 0, 1, 2, 7, 8, 9, 10, 15, 16, 17, math.MaxInt}
	sizes := append([]int{math.MinInt, 1000000000, 1<<32 + 1, math.MaxInt}, numbers(-3, 130)...)
	for k := api.Kind(-1); k <= 8; k++ {
		for _, size := range sizes {
			for _, parts := range small {
				for _, codes := range small {
					specAsPlain(t, api.Spec{Kind: k, Size: size, Parts: parts, Codes: codes})
				}
			}
		}
	}
}

func numbers(from, to int) []int {
	var l []int
	for n := from; n <= to; n++ {
		l = append(l, n)
	}
	return l
}

// Every spec that may be is printed as a text of its own, and parsed as itself: P12.4.
func TestEveryTextOnce(t *testing.T) {
	seen := map[string]api.Spec{}
	count := 0
	for k := api.KindFlat; k <= api.KindHnsw; k++ {
		for _, size := range numbers(0, 64) {
			for _, parts := range numbers(0, 8) {
				for _, codes := range numbers(0, 16) {
					s := api.Spec{Kind: k, Size: size, Parts: parts, Codes: codes}
					text, e := Print(s)
					if e != api.OK {
						continue
					}
					count++
					if other, twice := seen[text]; twice {
						t.Fatalf("P12.4: %v and %v are both %q", other, s, text)
					}
					seen[text] = s
					parseIs(t, text, s, api.OK)
				}
			}
		}
	}
	if want := 1 + 3*64 + 64*8*16 + 16; count != want {
		t.Errorf("P12.3: %d specs have a text: want %d", count, want)
	}
}

// The form comes ahead of the numbers: a text of a form whose numbers may not be is ErrSpecNum, any other ErrSpecForm.
func TestParseNumbers(t *testing.T) {
	good := []string{"0", "1", "2", "8", "9", "10", "16", "17", "64", "65", "99", "100", "123456789", "999999999"}
	bad := []string{"", "00", "01", "010", "064", "1234567890", "1000000001", "000000001", "9999999999",
		"18446744073709551617", "4294967297", strings.Repeat("1", 400), "-1", "+1", " 1", "1 ", "1.0", "1e1", "0x1", "1_0", "x", "٣", "１"}
	for _, l := range lines {
		for _, n := range good {
			asPlain(t, spelt(l, n, "1", "1"))
			asPlain(t, spelt(l, "1", n, "1"))
			asPlain(t, spelt(l, "1", "1", n))
			if l.kind != api.KindFlat && len(n) > 2 {
				parseIs(t, spelt(l, n, "1", "1"), api.Spec{}, api.ErrSpecNum)
			}
		}
		if l.kind == api.KindFlat {
			continue
		}
		for _, n := range bad {
			parseIs(t, spelt(l, n, "1", "1"), api.Spec{}, api.ErrSpecForm)
			// A number that may not be beside a form that may not be is a fault of the form.
			parseIs(t, spelt(l, "65", n, "1")+n+"z", api.Spec{}, api.ErrSpecForm)
		}
	}
	for _, n := range bad {
		for _, size := range []string{"1", "0", "65"} {
			parseIs(t, "IVF"+size+",PQ"+n+"x1", api.Spec{}, api.ErrSpecForm)
			parseIs(t, "IVF"+size+",PQ1x"+n, api.Spec{}, api.ErrSpecForm)
		}
	}
}

// All pairs and threes of numbers of the longest form.
func TestParseCodes(t *testing.T) {
	some := []string{"0", "1", "7", "8", "9", "15", "16", "17", "63", "64", "65", "01", ""}
	for _, a := range some {
		for _, b := range some {
			for _, c := range some {
				asPlain(t, "IVF"+a+",PQ"+b+"x"+c)
			}
		}
	}
}

func texts() []string {
	return []string{"Flat", "KD1", "KD64", "KD65", "KD0", "VP7", "VP64", "IVF8,Flat", "IVF64,Flat", "IVF0,Flat",
		"IVF8,PQ2x4", "IVF64,PQ8x16", "IVF1,PQ9x17", "HNSW1", "HNSW16", "HNSW17"}
}

// No text that is nearly one of the six is taken for it.
func TestParseNearly(t *testing.T) {
	const letters = "0123456789FlatKDVPIQHNSWx,X kd\x00\x80\n\xff-+"
	for _, text := range texts() {
		for i := range len(text) + 1 {
			asPlain(t, text[:i])
			asPlain(t, text[i:])
			for j := range len(letters) {
				asPlain(t, text[:i]+letters[j:j+1]+text[i:])
				if i < len(text) {
					asPlain(t, text[:i]+letters[j:j+1]+text[i+1:])
				}
			}
			if i < len(text) {
				asPlain(t, text[:i]+text[i+1:])
				asPlain(t, text[:i]+text[i:i+1]+text[i:])
			}
		}
		asPlain(t, strings.ToLower(text))
		asPlain(t, strings.ToUpper(text))
		asPlain(t, text+"\n")
		for _, other := range texts() {
			asPlain(t, text+other)
			asPlain(t, text+","+other)
		}
	}
}

// The words of the forms, in all orders of up to five.
func TestParseWords(t *testing.T) {
	words := []string{"Flat", "KD", "VP", "IVF", "PQ", "HNSW", "x", ",", "1", "0", "70"}
	rest := []string{""}
	for range 5 {
		var longer []string
		for _, text := range rest {
			for _, w := range words {
				longer = append(longer, text+w)
			}
		}
		slices.Sort(longer)
		rest = slices.Compact(longer)
		for _, text := range rest {
			asPlain(t, text)
		}
	}
}

// Very long texts end, too: R1.
func TestParseLong(t *testing.T) {
	long := strings.Repeat("9", 1<<20)
	for _, text := range []string{long, "KD" + long, "IVF" + long + ",Flat", "IVF1,PQ" + long + "x1", "IVF1,PQ1x" + long, "Flat" + long, strings.Repeat("IVF1,", 1<<16)} {
		if s, e := Parse(text); s != (api.Spec{}) || e != api.ErrSpecForm {
			t.Errorf("P12.2: Parse of %d bytes: %v, %d", len(text), s, e)
		}
	}
}
