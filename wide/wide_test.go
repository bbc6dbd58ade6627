package wide

import (
	"math/big"
	"slices"
	"strings"
	"testing"

	"theodolite/api"
)

const top = 1<<64 - 1

var (
	greatest = api.Wide{Hi: top, Lo: top}
	beyond   = new(big.Int).Lsh(big.NewInt(1), 128) // the least number that a Wide can not say
)

func lo(n uint64) api.Wide { return api.Wide{Lo: n} }

func asBig(a api.Wide) *big.Int {
	n := new(big.Int).SetUint64(a.Hi)
	n.Lsh(n, 64)
	return n.Or(n, new(big.Int).SetUint64(a.Lo))
}

func asWide(t *testing.T, n *big.Int) api.Wide {
	t.Helper()
	if n.Sign() < 0 || n.Cmp(beyond) >= 0 {
		t.Fatalf("the test asks for %v as a Wide", n)
	}
	hi := new(big.Int).Rsh(n, 64).Uint64()
	low := new(big.Int).And(n, new(big.Int).SetUint64(top)).Uint64()
	return api.Wide{Hi: hi, Lo: low}
}

// words are numbers at which carries, borrows and roots go over an edge, and some that lie anywhere.
func words() []uint64 {
	l := []uint64{0, 1, 2, 3, 4, 5, 7, 8, 9, 10, 15, 16, 17, 99, 100,
		1<<31 - 1, 1 << 31, 1<<32 - 1, 1 << 32, 1<<32 + 1, 3037000499, 3037000500,
		1<<63 - 1, 1 << 63, 1<<63 + 1, 13043817825332782212, top - 1, top,
		9999999999999999999, 10000000000000000000}
	x := uint64(88172645463325252)
	for range 12 {
		x ^= x << 13
		x ^= x >> 7
		x ^= x << 17
		l = append(l, x, x>>29, x>>50)
	}
	return l
}

func wides() []api.Wide {
	var l []api.Wide
	hs := []uint64{0, 1, 2, 9, 10, 1<<32 - 1, 1 << 32, 1<<63 - 1, 1 << 63, 12345678901234567890, top - 1, top}
	for _, h := range hs {
		for _, w := range words() {
			l = append(l, api.Wide{Hi: h, Lo: w})
		}
	}
	return l
}

// want holds an answer against the number that is asked for: one that a Wide can not say is ErrWide and a zero number.
func want(t *testing.T, what string, got api.Wide, e api.Errno, n *big.Int) {
	t.Helper()
	if n.Sign() < 0 || n.Cmp(beyond) >= 0 {
		if e != api.ErrWide || got != (api.Wide{}) {
			t.Fatalf("%s: %v, %d: want a zero number, ErrWide", what, got, e)
		}
		return
	}
	if e != api.OK || got != asWide(t, n) {
		t.Fatalf("%s: %v, %d: want %v", what, got, e, n)
	}
}

// The chapter's table, line by line.
func TestExamples(t *testing.T) {
	if s, e := Add(lo(top), lo(1)); s != (api.Wide{Hi: 1}) || e != api.OK {
		t.Errorf("P1.1: Add(2 to 64 less 1, 1): %v, %d", s, e)
	}
	if s, e := Add(greatest, lo(1)); s != (api.Wide{}) || e != api.ErrWide {
		t.Errorf("P1.1: Add(the greatest, 1): %v, %d", s, e)
	}
	if d, e := Sub(lo(3), lo(4)); d != (api.Wide{}) || e != api.ErrWide {
		t.Errorf("P1.1: Sub(3, 4): %v, %d", d, e)
	}
	if p := Mul(top, top); p != (api.Wide{Hi: 18446744073709551614, Lo: 1}) {
		t.Errorf("P1.2: Mul(2 to 64 less 1, the same): %v", p)
	}
	if c := Cmp(api.Wide{Hi: 1}, lo(9)); c != 1 {
		t.Errorf("P1.3: Cmp({1, 0}, {0, 9}): %d", c)
	}
	if c := Cmp(lo(3), lo(3)); c != 0 {
		t.Errorf("P1.3: Cmp({0, 3}, {0, 3}): %d", c)
	}
	for _, x := range []struct {
		a    api.Wide
		root uint64
	}{{lo(15), 3}, {lo(16), 4}, {greatest, 18446744073709551615}, {lo(0), 0}} {
		if r := Sqrt(x.a); r != x.root {
			t.Errorf("P1.4: Sqrt(%v): %d", x.a, r)
		}
	}
	if s := Print(api.Wide{Hi: 1}); s != "18446744073709551616" {
		t.Errorf("P1.5: Print({1, 0}): %q", s)
	}
	if s := Print(api.Wide{}); s != "0" {
		t.Errorf("P1.5: Print(0): %q", s)
	}
	for _, x := range []struct {
		s string
		a api.Wide
		e api.Errno
	}{
		{"18446744073709551616", api.Wide{Hi: 1}, api.OK},
		{"007", api.Wide{}, api.ErrWideForm},
		{"", api.Wide{}, api.ErrWideForm},
		{"340282366920938463463374607431768211455", greatest, api.OK},
		{"340282366920938463463374607431768211456", api.Wide{}, api.ErrWide},
	} {
		if a, e := Parse(x.s); a != x.a || e != x.e {
			t.Errorf("P1.5: Parse(%q): %v, %d", x.s, a, e)
		}
	}
}

func TestAddSub(t *testing.T) {
	for _, a := range wides() {
		for _, b := range wides() {
			s, e := Add(a, b)
			want(t, "P1.1: Add", s, e, new(big.Int).Add(asBig(a), asBig(b)))
			d, e := Sub(a, b)
			want(t, "P1.1: Sub", d, e, new(big.Int).Sub(asBig(a), asBig(b)))
		}
	}
}

func TestAddSubEdges(t *testing.T) {
	for _, x := range []struct {
		a, b, sum api.Wide
		e         api.Errno
	}{
		{lo(0), lo(0), lo(0), api.OK},
		{lo(top), lo(top), api.Wide{Hi: 1, Lo: top - 1}, api.OK},
		{greatest, lo(0), greatest, api.OK},
		{api.Wide{Hi: top}, lo(top), greatest, api.OK},
		{api.Wide{Hi: top, Lo: 1}, lo(top), api.Wide{}, api.ErrWide},
		{api.Wide{Hi: 1 << 63}, api.Wide{Hi: 1 << 63}, api.Wide{}, api.ErrWide},
		{greatest, greatest, api.Wide{}, api.ErrWide},
	} {
		if s, e := Add(x.a, x.b); s != x.sum || e != x.e {
			t.Errorf("P1.1: Add(%v, %v): %v, %d", x.a, x.b, s, e)
		}
		if s, e := Add(x.b, x.a); s != x.sum || e != x.e {
			t.Errorf("P1.1: Add(%v, %v): %v, %d", x.b, x.a, s, e)
		}
	}
	for _, x := range []struct {
		a, b, less api.Wide
		e          api.Errno
	}{
		{lo(0), lo(0), lo(0), api.OK},
		{api.Wide{Hi: 1}, lo(1), lo(top), api.OK},
		{greatest, greatest, lo(0), api.OK},
		{lo(top), api.Wide{Hi: 1}, api.Wide{}, api.ErrWide},
		{api.Wide{Hi: 5, Lo: 3}, api.Wide{Hi: 5, Lo: 4}, api.Wide{}, api.ErrWide},
		{lo(0), greatest, api.Wide{}, api.ErrWide},
	} {
		if d, e := Sub(x.a, x.b); d != x.less || e != x.e {
			t.Errorf("P1.1: Sub(%v, %v): %v, %d", x.a, x.b, d, e)
		}
	}
}

func TestMul(t *testing.T) {
	for _, a := range words() {
		for _, b := range words() {
			n := new(big.Int).Mul(new(big.Int).SetUint64(a), new(big.Int).SetUint64(b))
			want(t, "P1.2: Mul", Mul(a, b), api.OK, n)
		}
	}
	for _, x := range []struct {
		a, b uint64
		p    api.Wide
	}{
		{0, top, lo(0)},
		{1, top, lo(top)},
		{1 << 32, 1 << 32, api.Wide{Hi: 1}},
		{1<<32 - 1, 1<<32 + 1, lo(top)},
		{1 << 63, 2, api.Wide{Hi: 1}},
	} {
		if p := Mul(x.a, x.b); p != x.p {
			t.Errorf("P1.2: Mul(%d, %d): %v", x.a, x.b, p)
		}
	}
}

func TestCmp(t *testing.T) {
	for _, a := range wides() {
		for _, b := range wides() {
			if c := Cmp(a, b); c != asBig(a).Cmp(asBig(b)) {
				t.Fatalf("P1.3: Cmp(%v, %v): %d", a, b, c)
			}
		}
	}
}

func TestSqrt(t *testing.T) {
	for _, a := range wides() {
		if r := Sqrt(a); r != new(big.Int).Sqrt(asBig(a)).Uint64() {
			t.Fatalf("P1.4: Sqrt(%v): %d", a, r)
		}
	}
	for n := range uint64(2000) {
		r := Sqrt(lo(n))
		if r*r > n || (r+1)*(r+1) <= n {
			t.Fatalf("P1.4: Sqrt(%d): %d", n, r)
		}
	}
}

// A square, its neighbours, and the last number ahead of the next square.
func TestSqrtOfSquares(t *testing.T) {
	one := lo(1)
	for _, r := range words() {
		square := Mul(r, r)
		if got := Sqrt(square); got != r {
			t.Errorf("P1.6: Sqrt(%d squared): %d", r, got)
		}
		if r == 0 {
			continue
		}
		below, _ := Sub(square, one)
		if got := Sqrt(below); got != r-1 {
			t.Errorf("P1.4: Sqrt(%d squared, less 1): %d", r, got)
		}
		above, _ := Add(square, one)
		if got := Sqrt(above); got != r {
			t.Errorf("P1.4: Sqrt(%d squared, and 1): %d", r, got)
		}
		last, e := Add(square, Mul(r, 2))
		if got := Sqrt(last); e != api.OK || got != r {
			t.Errorf("P1.4: Sqrt(the last ahead of the square of %d and 1): %d, %d", r, got, e)
		}
	}
}

func TestSqrtNeverFalls(t *testing.T) {
	l := wides()
	slices.SortFunc(l, func(a, b api.Wide) int { return asBig(a).Cmp(asBig(b)) })
	for i := 1; i < len(l); i++ {
		if Sqrt(l[i-1]) > Sqrt(l[i]) {
			t.Fatalf("P1.6: Sqrt(%v) is above Sqrt(%v)", l[i-1], l[i])
		}
	}
}

func TestPrint(t *testing.T) {
	for _, a := range wides() {
		if s := Print(a); s != asBig(a).String() {
			t.Fatalf("P1.5: Print(%v): %q", a, s)
		}
	}
	if s := Print(greatest); s != "340282366920938463463374607431768211455" {
		t.Errorf("P1.5: Print(the greatest): %q", s)
	}
}

// Powers of ten and the numbers ahead of them: every count of digits that there is.
func TestEveryLength(t *testing.T) {
	for n := range mostDigits {
		power := "1" + strings.Repeat("0", n)
		for _, s := range []string{power, strings.Repeat("9", n)} {
			if s == "" {
				continue
			}
			wanted, _ := new(big.Int).SetString(s, 10)
			a, e := Parse(s)
			want(t, "P1.5: Parse("+s+")", a, e, wanted)
			if got := Print(a); got != s {
				t.Errorf("P1.5: Print(%v): %q, want %q", a, got, s)
			}
		}
	}
}

func TestParseAboveGreatest(t *testing.T) {
	for _, s := range []string{
		"340282366920938463463374607431768211456", // the digit at the end is one too many
		"340282366920938463463374607431768211460", // so is ten times what stands ahead of it
		"340282366920938463481821351505477763072", // would wrap to 2 to the power of 64
		"350000000000000000000000000000000000000",
		"680564733841876926926749214863536422912", // would wrap to 0
		strings.Repeat("9", 39),
	} {
		if a, e := Parse(s); a != (api.Wide{}) || e != api.ErrWide {
			t.Errorf("P1.5: Parse(%q): %v, %d", s, a, e)
		}
	}
}

func TestParseForm(t *testing.T) {
	for _, s := range []string{
		"00", "01", "0340282366920938463463374607431768211455",
		strings.Repeat("0", 39), strings.Repeat("0", 40),
		"0" + strings.Repeat("9", 38),
		"1" + strings.Repeat("0", 39), strings.Repeat("9", 40), strings.Repeat("1", 5000),
		"+1", "-1", "-0", " 1", "1 ", "1\n", "1_000", "1.0", "1e3", "0x1", "a", "x", "\x00", "1\x00",
		"١", "１", "\xff", "\xb1",
		strings.Repeat("9", 38) + "x", // the form counts ahead of the number
		"x" + strings.Repeat("9", 38),
	} {
		if a, e := Parse(s); a != (api.Wide{}) || e != api.ErrWideForm {
			t.Errorf("P1.5: Parse(%q): %v, %d", s, a, e)
		}
	}
}

// Every byte at every place of a short text.
func TestParseBytes(t *testing.T) {
	for place := range 3 {
		for b := range 256 {
			text := []byte("123")
			text[place] = byte(b)
			digit := b >= '0' && b <= '9'
			fine := digit && !(place == 0 && b == '0')
			a, e := Parse(string(text))
			if !fine && (e != api.ErrWideForm || a != (api.Wide{})) {
				t.Errorf("P1.5: Parse(%q): %v, %d", text, a, e)
			}
			if fine && (e != api.OK || Print(a) != string(text)) {
				t.Errorf("P1.5: Parse(%q): %v, %d", text, a, e)
			}
		}
	}
}

func TestPrintedIsParsed(t *testing.T) {
	for _, a := range wides() {
		if b, e := Parse(Print(a)); b != a || e != api.OK {
			t.Fatalf("P1.6: Parse(Print(%v)): %v, %d", a, b, e)
		}
	}
}

func TestAddAndSubUndoOneAnother(t *testing.T) {
	for _, a := range wides() {
		for _, b := range wides() {
			if s, e := Add(a, b); e == api.OK {
				if back, e := Sub(s, b); back != a || e != api.OK {
					t.Fatalf("P1.6: %v and %v, less it: %v, %d", a, b, back, e)
				}
			}
			if d, e := Sub(a, b); e == api.OK {
				if back, e := Add(d, b); back != a || e != api.OK {
					t.Fatalf("P1.6: %v less %v, and it: %v, %d", a, b, back, e)
				}
			}
		}
	}
}

func TestProductOfParts(t *testing.T) {
	for _, a := range words() {
		for _, b := range words() {
			if a+b < a {
				continue
			}
			for _, c := range words() {
				s, e := Add(Mul(a, c), Mul(b, c))
				if e != api.OK || s != Mul(a+b, c) {
					t.Fatalf("P1.6: (%d and %d) times %d: %v, %d", a, b, c, s, e)
				}
			}
		}
	}
}
