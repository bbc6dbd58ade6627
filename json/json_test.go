package json

import (
	"math"
	"slices"
	"strconv"
	"strings"
	"testing"

	"theodolite/api"
)

// Short ways to say values.
func num(n int) api.Value                { return api.Value{Sort: api.SortNum, Num: n} }
func text(s string) api.Value            { return api.Value{Sort: api.SortText, Text: s} }
func list(values ...api.Value) api.Value { return api.Value{Sort: api.SortList, List: values} }
func object(names string, values ...api.Value) api.Value {
	return api.Value{Sort: api.SortObject, Names: strings.Fields(names), List: values}
}

// nested is x in so many lists.
func nested(x api.Value, times int) api.Value {
	for range times {
		x = list(x)
	}
	return x
}

// many is a list of so many zeros.
func many(n int) api.Value {
	return list(slices.Repeat([]api.Value{num(0)}, n)...)
}

// manyNames is an object of so many names.
func manyNames(n int) api.Value {
	v := api.Value{Sort: api.SortObject}
	for i := range n {
		v.Names = append(v.Names, strconv.Itoa(i))
		v.List = append(v.List, num(i))
	}
	return v
}

var (
	null  = api.Value{Sort: api.SortNull}
	no    = api.Value{Sort: api.SortFalse}
	yes   = api.Value{Sort: api.SortTrue}
	wrong = api.Value{Sort: 8}
)

// TestCheckOK tries values that may be, up to the bounds.
func TestCheckOK(t *testing.T) {
	for i, v := range []api.Value{
		null, no, yes, num(0), num(-5), num(999999999999999), num(-999999999999999), text(""), text("\x00\xff\""),
		list(), list(null, list()), object(""), object("a b", num(1), list(num(2))),
		{Sort: api.SortNull, List: []api.Value{}, Names: []string{}},
		{Sort: api.SortList, List: []api.Value{}, Names: []string{}},
		{Sort: api.SortNum, Num: 7, List: make([]api.Value, 0, 3), Names: make([]string, 0, 3)},
		{Sort: api.SortObject, Names: []string{"", " "}, List: []api.Value{null, null}},
		object("a b", object("a", null), object("a", null)),
		nested(list(), 7), nested(num(1), 8), list(nested(num(1), 7), nested(text("x"), 7)),
		nested(object("a b", num(1), num(2)), 7),
		many(1023), many(1024), manyNames(1024), list(many(1024), many(1024)),
		text(strings.Repeat("x", 100000)),
	} {
		if e := Check(v); e != api.OK {
			t.Errorf("P20.1: value %d: %d", i, e)
		}
	}
}

// TestCheckForm tries what is no value at all.
func TestCheckForm(t *testing.T) {
	some, names := []api.Value{null}, []string{"a"}
	for i, v := range []api.Value{
		{}, {Sort: -1}, wrong, {Sort: math.MaxInt}, {Sort: math.MinInt},
		{Sort: api.SortNull, Num: 1}, {Sort: api.SortNull, Text: "x"}, {Sort: api.SortNull, List: some}, {Sort: api.SortNull, Names: names},
		{Sort: api.SortFalse, Num: -1}, {Sort: api.SortFalse, Text: "x"}, {Sort: api.SortFalse, List: some}, {Sort: api.SortFalse, Names: names},
		{Sort: api.SortTrue, Num: 1}, {Sort: api.SortTrue, Text: "x"}, {Sort: api.SortTrue, List: some}, {Sort: api.SortTrue, Names: names},
		{Sort: api.SortNum, Num: 1, Text: "x"}, {Sort: api.SortNum, List: some}, {Sort: api.SortNum, Names: names},
		{Sort: api.SortText, Num: 1}, {Sort: api.SortText, Text: "x", List: some}, {Sort: api.SortText, Names: names},
		{Sort: api.SortList, Num: 1}, {Sort: api.SortList, Text: "x"}, {Sort: api.SortList, List: some, Names: names},
		{Sort: api.SortObject, Num: 1}, {Sort: api.SortObject, Text: "x"}, {Sort: api.SortObject, Names: names}, {Sort: api.SortObject, List: some},
		object("a b", null), object("a", null, null),
		object("a a", null, null), object("a b a", null, null, null), list(num(1), list(object("x x", null, null))),
	} {
		if e := Check(v); e != api.ErrJsonForm {
			t.Errorf("P20.1: value %d: %d", i, e)
		}
		if e := Check(list(null, object("a", v))); e != api.ErrJsonForm {
			t.Errorf("P20.1: within, value %d: %d", i, e)
		}
		if s, e := Print(v); s != "" || e != api.ErrJsonForm {
			t.Errorf("P20.3: value %d: %q, %d", i, s, e)
		}
	}
}

// TestCheckOthers tries the other errors, just beyond the bounds.
func TestCheckOthers(t *testing.T) {
	for want, values := range map[api.Errno][]api.Value{
		api.ErrJsonDeep: {nested(list(), 8), nested(num(1), 9), nested(object(""), 8), nested(object("a", null), 8), list(null, nested(null, 8), null), nested(null, 100000)},
		api.ErrJsonNum:  {num(1000000000000000), num(-1000000000000000), num(math.MaxInt), num(math.MinInt), list(null, object("a", num(1000000000000000)))},
		api.ErrJsonMany: {many(1025), manyNames(1025), list(many(1), many(1025)), object("a", manyNames(1025))},
	} {
		for i, v := range values {
			if e := Check(v); e != want {
				t.Errorf("P20.1: value %d of %d: %d", i, want, e)
			}
			if s, e := Print(v); s != "" || e != want {
				t.Errorf("P20.3: value %d of %d: %q, %d", i, want, s, e)
			}
		}
	}
}

// TestCheckOrder tries values with two faults, wherever they stand: the first of P20.1's is told.
func TestCheckOrder(t *testing.T) {
	faults := []struct {
		v    api.Value
		want api.Errno
	}{
		{wrong, api.ErrJsonForm},
		{nested(null, 9), api.ErrJsonDeep},
		{num(1000000000000000), api.ErrJsonNum},
		{many(1025), api.ErrJsonMany},
		{object("a a", null, null), api.ErrJsonForm},
	}
	for i, first := range faults {
		for j, later := range faults[i:] {
			for _, v := range []api.Value{list(first.v, later.v), list(later.v, first.v), list(list(later.v), first.v), list(later.v, list(first.v)), object("a b", list(list(first.v)), later.v)} {
				if e := Check(v); e != first.want {
					t.Errorf("P20.1: faults %d and %d: %d, wanted %d", i, i+j, e, first.want)
				}
			}
		}
	}
	if e := Check(nested(wrong, 5000)); e != api.ErrJsonForm {
		t.Errorf("P20.1: a wrong Sort, however deep: %d", e)
	}
}

// TestEndless tries values that hold themselves, and such as stand in many places: every call ends (R1).
func TestEndless(t *testing.T) {
	own := []api.Value{null, null}
	own[1] = api.Value{Sort: api.SortList, List: own}
	both := []api.Value{null, null}
	both[0] = api.Value{Sort: api.SortList, List: both}
	both[1] = api.Value{Sort: api.SortList, List: both[:1]}
	for i, l := range [][]api.Value{own, both} {
		v := api.Value{Sort: api.SortList, List: l}
		if e := Check(v); e != api.ErrJsonDeep {
			t.Errorf("P20.1: list %d: %d", i, e)
		}
		if e := Check(list(v, wrong)); e != api.ErrJsonForm {
			t.Errorf("P20.1: list %d and a wrong Sort: %d", i, e)
		}
		if s, e := Print(v); s != "" || e != api.ErrJsonDeep {
			t.Errorf("P20.3: list %d: %q, %d", i, s, e)
		}
		if x, is := Get(object("a", v), "a"); !is || len(x.List) != len(l) || Check(x) != api.ErrJsonDeep {
			t.Errorf("P20.4: list %d: %v", i, is)
		}
	}
	if x, _ := Get(object("a", list(both...)), "a"); len(x.List[0].List) != 2 || len(x.List[1].List) != 1 || len(x.List[1].List[0].List) != 2 {
		t.Error("P20.4: a list and its first piece are two lists")
	}
	wide := num(1)
	for range 8 {
		wide = list(slices.Repeat([]api.Value{wide}, 1000)...)
	}
	if e := Check(wide); e != api.OK {
		t.Errorf("P20.1: a list in many places: %d", e)
	}
	if s, e := Print(wide); s != "" || e != api.ErrLong {
		t.Errorf("P20.3: a list in many places: %d bytes, %d", len(s), e)
	}
}

// TestParse tries texts of values.
func TestParse(t *testing.T) {
	for s, want := range map[string]api.Value{
		"null": null, "false": no, "true": yes, " null ": null, "\r\n\t true\t\r \n": yes,
		"0": num(0), "7": num(7), "-1": num(-1), "10": num(10), "-90": num(-90), "999999999999999": num(999999999999999), "-999999999999999": num(-999999999999999),
		`""`: text(""), `"a b"`: text("a b"), `" \" \\ \/ \n \t "`: text(" \" \\ / \n \t "), `"!#[]^~ /"`: text("!#[]^~ /"),
		`"\u0000\u0041\u007f\u00ff\u00Ff\u00aB\u00Cd\u00eE\u0019"`: text("\x00A\x7f\xff\xff\xab\xcd\xee\x19"),
		"[]": list(), "[ ]": list(), " [\t] ": list(), "[1]": list(num(1)), "[ [ ] , { } ]": list(list(), object("")), "[1,2 ,3]": list(num(1), num(2), num(3)),
		"{}": object(""), "{\n}": object(""), `{"a":1}`: object("a", num(1)), ` { "a" : [ 1 , -2 ] } `: object("a", list(num(1), num(-2))),
		`{"":null," ":true}`:                    {Sort: api.SortObject, Names: []string{"", " "}, List: []api.Value{null, yes}},
		`{"b":1,"a":2,"c":{"a":"x"}}`:           object("b a c", num(1), num(2), object("a", text("x"))),
		`{"\u0061":1,"A":2}`:                    object("a A", num(1), num(2)),
		strings.Repeat(" ", 16380) + "null":     null,
		`"` + strings.Repeat("x", 16382) + `"`:  text(strings.Repeat("x", 16382)),
		"[[[[[[[[]]]]]]]]":                      nested(list(), 7),
		"[[[[[[[[-3]]]]]]]]":                    nested(num(-3), 8),
		"[" + strings.Repeat("0,", 1023) + "0]": many(1024),
	} {
		if v, e := Parse(s); e != api.OK || !plainSame(v, want) {
			t.Errorf("P20.2: Parse(%.40q): %.200v, %d", s, v, e)
		}
	}
}

// TestParseForm tries texts that are none of a value.
func TestParseForm(t *testing.T) {
	for _, s := range []string{
		"", " ", "\x00", "n", "nul", "nulll", "nullnull", "null null", "Null", "true1", "fals", "tru e",
		"01", "00", "-0", "-", "- 1", "-01", "+1", "1.5", "1e3", "1 2", "--1", "1-", "0x1", "1_000", "-a", ".1", "0 1", "1,",
		`"`, `"a`, `"\"`, `"\`, `"\a"`, `"\b"`, `"\f"`, `"\r"`, `"\'"`, `"\u"`, `"\u00"`, `"\u004"`, `"\u004g"`, `"\u00g4"`, `"\u0141"`, `"\u1041"`, `"\U0041"`, `"\u00 41"`, `"\u00:0"`, `"\u00@0"`, "\"\\u00`0\"", `"\u00/0"`, `"\u000G"`,
		"\"\n\"", "\"\t\"", "\"\x1f\"", "\"\x7f\"", "\"\x80\"", "\"\xff\"", "\"é\"", "'a'", `"a""b"`, `"a" "b"`, `a`, "\"\x00\"",
		"[", "]", "[1", "[1,", "[,]", "[1,]", "[,1]", "[1 2]", "[1,,2]", "[1]]", "[[1]", "[}", "[1}", "[1;2]", "[1:2]", "[]x", "[ ",
		"{", "}", "{]", `{"a"}`, `{"a":}`, `{:1}`, `{"a":1,}`, `{,}`, `{"a":1 "b":2}`, `{a:1}`, `{1:1}`, `{null:1}`, `{"a":1]`, `{"a":1`, `{"a",1}`, `{"a"::1}`, `{"a":1:2}`, `{"a":1,,"b":2}`, `{"a":1}}`, `{"a" 1}`, `{["a"]:1}`, `{"a":1,2}`, `{"a`, `{"a":1,"b"}`,
		"\v1", "\f1", "1\v", "\u00a01", "\ufeff1", "1\x00", "[1\x00]", "/**/1", "//\n1", "1//", "NaN", "undefined",
		strings.Repeat("[", 16384), strings.Repeat(`{"a":`, 3000), strings.Repeat("]", 9), strings.Repeat("[", 9) + strings.Repeat("]", 8), strings.Repeat(" ", 16384),
		"[" + strings.Repeat("0,", 1024) + "01]", strings.Repeat("9", 40) + "x",
		`{"a":1,"a":2}`, `[{"a":1,"b":3,"\u0061":2}]`, `{"":1,"":1}`,
	} {
		if v, e := Parse(s); e != api.ErrJsonForm || !isZero(v) {
			t.Errorf("P20.2: Parse(%.60q): %.200v, %d", s, v, e)
		}
	}
}

// isZero tells whether v is a struct of noughts.
func isZero(v api.Value) bool {
	return v.Sort == 0 && v.Num == 0 && v.Text == "" && v.List == nil && v.Names == nil
}

// TestParseOthers tries texts of values that may not be, and such as are too long.
func TestParseOthers(t *testing.T) {
	for s, want := range map[string]api.Errno{
		strings.Repeat("[", 9) + strings.Repeat("]", 9):                                                 api.ErrJsonDeep,
		strings.Repeat("[", 8192) + strings.Repeat("]", 8192):                                           api.ErrJsonDeep,
		strings.Repeat(`{"":`, 9) + "1" + strings.Repeat("}", 9):                                        api.ErrJsonDeep,
		`[` + strings.Repeat("[", 8) + "10000000000000000" + strings.Repeat("]", 8) + `,{"a":1,"a":1}]`: api.ErrJsonDeep,
		"1000000000000000":                                      api.ErrJsonNum,
		"-1000000000000000":                                     api.ErrJsonNum,
		"10000000000000000":                                     api.ErrJsonNum,
		"9223372036854775808":                                   api.ErrJsonNum,
		"18446744073709551616":                                  api.ErrJsonNum,
		"-18446744073709551617":                                 api.ErrJsonNum,
		"1" + strings.Repeat("0", 16383):                        api.ErrJsonNum,
		"-" + strings.Repeat("9", 16383):                        api.ErrJsonNum,
		`[{"a":1,"a":2},1000000000000000]`:                      api.ErrJsonNum,
		"[" + strings.Repeat("0,", 1024) + "1000000000000000]":  api.ErrJsonNum,
		"[" + strings.Repeat("0,", 1024) + "0]":                 api.ErrJsonMany,
		`[{"a":1,"a":2},[` + strings.Repeat("0,", 1024) + "0]]": api.ErrJsonMany,
		strings.Repeat(" ", 16385):                              api.ErrLong,
		strings.Repeat(" ", 16384) + "1":                        api.ErrLong,
		strings.Repeat("x", 16385):                              api.ErrLong,
		strings.Repeat("9", 16385):                              api.ErrLong,
		`"` + strings.Repeat("x", 16383) + `"`:                  api.ErrLong,
	} {
		if v, e := Parse(s); e != want || !isZero(v) {
			t.Errorf("P20.2: Parse(%.60q): %.200v, %d, wanted %d", s, v, e, want)
		}
	}
	var b strings.Builder
	for i := range 1025 {
		b.WriteString(`,"` + strconv.Itoa(i) + `":0`)
	}
	if v, e := Parse("{" + b.String()[1:] + "}"); e != api.ErrJsonMany || !isZero(v) {
		t.Errorf("P20.2: an object of 1025: %d", e)
	}
}

// TestPrint tries values and their texts.
func TestPrint(t *testing.T) {
	for want, v := range map[string]api.Value{
		"null": null, "false": no, "true": yes, "0": num(0), "-7": num(-7), "999999999999999": num(999999999999999), "-999999999999999": num(-999999999999999),
		`""`: text(""), `"\u000a\"\u00ff"`: text("\n\"\xff"), `"\u0009\u000d\u0000\u001f !~\u007f\u0080/\\'é"`: text("\t\r\x00\x1f !~\x7f\x80/\\'é"),
		"[]": list(), "{}": object(""), "[null,[1,2],{}]": list(null, list(num(1), num(2)), object("")),
		`{"b":1,"a":[-2],"c":{"a":"x"}}`: object("b a c", num(1), list(num(-2)), object("a", text("x"))),
		`{"\u0001\"\\":true}`:            {Sort: api.SortObject, Names: []string{"\x01\"\\"}, List: []api.Value{yes}},
	} {
		want = strings.ReplaceAll(want, "é", `\u00c3\u00a9`)
		if s, e := Print(v); s != want || e != api.OK {
			t.Errorf("P20.3: %s, %d, wanted %s", s, e, want)
		}
	}
}

// TestPrintLong tries values whose texts have as many bytes as may be, and one more.
func TestPrintLong(t *testing.T) {
	digits := list(slices.Repeat([]api.Value{num(100000000000000)}, 1022)...)
	for i, c := range []struct {
		v    api.Value
		long int
	}{
		{text(strings.Repeat("x", 16382)), 16384},
		{text(strings.Repeat("x", 16383)), 16385},
		{text(strings.Repeat("\"", 8191)), 16384},
		{text(strings.Repeat("\"", 8191) + "x"), 16385},
		{text(strings.Repeat("\x00", 2730) + "xx"), 16384},
		{text(strings.Repeat("\x00", 2730) + "xxx"), 16385},
		{list(digits, text(strings.Repeat("y", 26))), 16384},
		{list(digits, text(strings.Repeat("y", 27))), 16385},
		{object("abcd", list(text(strings.Repeat("z", 16371)))), 16384},
		{object("abcd", list(text(strings.Repeat("z", 16372)))), 16385},
		{object(strings.Repeat("n", 16375), null), 16384},
		{object(strings.Repeat("n", 16376), null), 16385},
		{list(text(strings.Repeat("z", 16375)), null), 16384},
		{list(text(strings.Repeat("z", 16376)), null), 16385},
		{list(text(strings.Repeat("z", 16377)), no), 16387},
		{text(strings.Repeat("x", 1000000)), 1000002},
	} {
		s, e := Print(c.v)
		if want := plainSay(c.v); len(want) != c.long {
			t.Fatalf("value %d has a text of %d bytes", i, len(want))
		} else if c.long <= 16384 && (s != want || e != api.OK) {
			t.Errorf("P20.3: value %d: %d bytes, %d, wanted %d", i, len(s), e, c.long)
		}
		if c.long > 16384 && (s != "" || e != api.ErrLong) {
			t.Errorf("P20.3: value %d of %d bytes: %d bytes, %d", i, c.long, len(s), e)
		}
	}
	if s, e := Print(list(text(strings.Repeat("x", 20000)), num(1000000000000000))); s != "" || e != api.ErrJsonNum {
		t.Errorf("P20.3: Check's error is ahead of the length: %d bytes, %d", len(s), e)
	}
}

// TestGet tries values of all sorts, and such as Check refuses.
func TestGet(t *testing.T) {
	one := object("a", num(1))
	for i, c := range []struct {
		v    api.Value
		name string
		want api.Value
		is   bool
	}{
		{one, "a", num(1), true},
		{one, "b", api.Value{}, false},
		{one, "", api.Value{}, false},
		{one, "A", api.Value{}, false},
		{list(num(1)), "a", api.Value{}, false},
		{object("a b a", num(1), num(2), num(3)), "a", num(1), true},
		{object("a b a", num(1), num(2), num(3)), "b", num(2), true},
		{object("c", object("a", null)), "a", api.Value{}, false},
		{object("c", object("a", null)), "c", object("a", null), true},
		{object("a b", num(1)), "a", num(1), true},
		{object("a b", num(1)), "b", api.Value{}, false},
		{object("a", num(1), num(2)), "a", num(1), true},
		{object("a"), "a", api.Value{}, false},
		{object(""), "", api.Value{}, false},
		{api.Value{Sort: api.SortObject, Names: []string{""}, List: []api.Value{yes}}, "", yes, true},
		{api.Value{Sort: api.SortObject, Num: 4, Text: "x", Names: []string{"a"}, List: []api.Value{yes}}, "a", yes, true},
		{object("a", wrong), "a", wrong, true},
		{object("a", api.Value{Sort: 9, Num: 1, Text: "t", Names: []string{"n"}, List: []api.Value{{}}}), "a", api.Value{Sort: 9, Num: 1, Text: "t", Names: []string{"n"}, List: []api.Value{{}}}, true},
		{api.Value{Sort: api.SortList, Names: []string{"a"}, List: []api.Value{yes}}, "a", api.Value{}, false},
		{api.Value{Sort: api.SortNull, Names: []string{"a"}, List: []api.Value{yes}}, "a", api.Value{}, false},
		{api.Value{Names: []string{"a"}, List: []api.Value{yes}}, "a", api.Value{}, false},
		{api.Value{Sort: 8, Names: []string{"a"}, List: []api.Value{yes}}, "a", api.Value{}, false},
		{api.Value{}, "", api.Value{}, false},
		{text("a"), "a", api.Value{}, false},
	} {
		if v, is := Get(c.v, c.name); is != c.is || !plainSame(v, c.want) {
			t.Errorf("P20.4: value %d: %+v, %v", i, v, is)
		}
	}
	if x, is := Get(object("a", nested(num(5), 100000)), "a"); !is || Check(x) != api.ErrJsonDeep {
		t.Errorf("P20.4: a deep one: %v", is)
	}
}

// TestNewMemory writes over what Get has answered, and into what it was asked of (R2).
func TestNewMemory(t *testing.T) {
	inner := []api.Value{num(1), num(2)}
	v := object("a b", list(list(inner...), list(inner...), object("x y", num(3), list(inner...))), null)
	x, _ := Get(v, "a")
	y, _ := Get(v, "a")
	for i, l := range []*api.Value{&x.List[0], &x.List[1], &x.List[2].List[1]} {
		l.List[0] = num(10 + i)
		_ = append(l.List[:1], num(99))
	}
	x.List[2].Names[0] = "z"
	want := list(list(num(1), num(2)), list(num(1), num(2)), object("x y", num(3), list(num(1), num(2))))
	if !plainSame(y, want) || !plainSame(v.List[0], want) {
		t.Errorf("R2: %+v, %+v", y, v.List[0])
	}
	if !plainSame(x, list(list(num(10), num(99)), list(num(11), num(99)), object("z y", num(3), list(num(12), num(99))))) {
		t.Errorf("R2: %+v", x)
	}
	shared := list(num(7), num(8))
	z, _ := Get(object("a", list(shared, shared)), "a")
	z.List[0].List[0] = num(0)
	if z.List[1].List[0].Num != 7 {
		t.Error("R2: two lists of an answer share their memory")
	}
	p, _ := Parse(`{"a":[1],"b":[1]}`)
	p.List[0].List[0] = num(2)
	if q, _ := Parse(`{"a":[1],"b":[1]}`); p.List[1].List[0].Num != 1 || q.List[0].List[0].Num != 1 {
		t.Error("R2: Parse's lists share their memory")
	}
}

// TestNotWritten asks of values with spare room: nothing is written into them (R2).
func TestNotWritten(t *testing.T) {
	names := []string{"b", "a", "spare"}[:2]
	values := []api.Value{num(1), list(num(2)), text("spare")}[:2]
	v := api.Value{Sort: api.SortObject, Names: names, List: values}
	Check(v)
	Print(v)
	Get(v, "a")
	if !slices.Equal(names[:3], []string{"b", "a", "spare"}) || !plainSame(list(values[:3]...), list(num(1), list(num(2)), text("spare"))) {
		t.Errorf("R2: %v, %+v", names[:3], values[:3])
	}
}

// TestDrawnTexts holds Parse against the chapter said anew, for texts with a byte more, less or other.
func TestDrawnTexts(t *testing.T) {
	t.Parallel()
	draw := drawn(20)
	odd := "[]{},:\"\\ntu0019-afF \t\n\x00\x7f"
	right := 0
	for range 60000 {
		b := []byte(plainSay(drawnValue(draw, 1+draw(4))))
		for range draw(3) {
			at, c := draw(len(b)+1), odd[draw(len(odd))]
			switch draw(3) {
			case 0:
				b = slices.Insert(b, at, c)
			case 1:
				b = slices.Delete(b, min(at, len(b)), min(at+1, len(b)))
			case 2:
				b = slices.Replace(b, min(at, len(b)), min(at+1, len(b)), c)
			}
		}
		v, e := Parse(string(b))
		want, f := plainParse(t, string(b))
		if e != f || !plainSame(v, want) {
			t.Fatalf("P20.2: Parse(%q): %+v, %d, wanted %+v, %d", b, v, e, want, f)
		}
		if e == api.OK {
			right++
		}
	}
	if right < 20000 || right > 55000 {
		t.Errorf("of 60000 texts %d are right ones", right)
	}
}

// spoilt is v, of which some value within may be another one.
func spoilt(draw func(int) int, v api.Value) api.Value {
	if len(v.List) > 0 && draw(4) > 0 {
		at := draw(len(v.List))
		v.List = slices.Clone(v.List)
		v.List[at] = spoilt(draw, v.List[at])
		return v
	}
	switch draw(12) {
	case 0:
		v.Sort = api.Sort(draw(10) - 1)
	case 1:
		v.Num = draw(3)
	case 2:
		v.Text = drawnText(draw)
	case 3:
		v.Names = append(slices.Clone(v.Names), "a")
	case 4:
		v = num([]int{1000000000000000, -1000000000000000, math.MaxInt, math.MinInt}[draw(4)])
	case 5:
		if draw(4) == 0 {
			v = many(1024 + draw(2))
		}
	case 6:
		v = nested(v, 4+draw(6))
	case 7:
		v = object("a b a", v, v, v)
	case 8:
		v = list(v, v)
	}
	return v
}

// TestDrawnValues holds Check, Print and Get against the chapter said anew, and T8's text and back.
func TestDrawnValues(t *testing.T) {
	t.Parallel()
	draw := drawn(21)
	told := map[api.Errno]int{}
	for range 60000 {
		v := drawnValue(draw, draw(5))
		for range draw(4) {
			v = spoilt(draw, v)
		}
		want := plainCheck(v)
		told[want]++
		if e := Check(v); e != want {
			t.Fatalf("P20.1: %+v: %d, wanted %d", v, e, want)
		}
		s, e := Print(v)
		said, f := plainPrint(v)
		if s != said || e != f {
			t.Fatalf("P20.3: %+v: %s, %d, wanted %s, %d", v, s, e, said, f)
		}
		for i, name := range v.Names {
			first := slices.Index(v.Names, name)
			there := v.Sort == api.SortObject && first < len(v.List)
			if x, is := Get(v, name); is != there || is && !plainSame(x, v.List[first]) {
				t.Fatalf("P20.4: %+v, name %d: %+v, %v", v, i, x, is)
			}
		}
		if e != api.OK {
			continue
		}
		if x, e := Parse(s); e != api.OK || !plainSame(x, v) {
			t.Fatalf("P20.5: %s: %+v, %d", s, x, e)
		}
	}
	for _, e := range []api.Errno{api.OK, api.ErrJsonForm, api.ErrJsonDeep, api.ErrJsonNum, api.ErrJsonMany} {
		if told[e] < 500 {
			t.Errorf("of 60000 values %d answer %d", told[e], e)
		}
	}
}

// TestBlanks puts blanks where they may stand: it changes nothing.
func TestBlanks(t *testing.T) {
	t.Parallel()
	draw := drawn(22)
	blanks := func() string {
		out := ""
		for range draw(4) {
			out += string(" \t\n\r"[draw(4)])
		}
		return out
	}
	for range 20000 {
		v := drawnValue(draw, 1+draw(4))
		s, within, behind := blanks(), false, false
		for _, c := range plainSay(v) {
			mark := !within && strings.ContainsRune("[]{},:", c)
			if mark {
				s += blanks()
			}
			s += string(c)
			if mark {
				s += blanks()
			}
			if c == '"' && !behind {
				within = !within
			}
			behind = c == '\\' && !behind
		}
		s += blanks()
		x, e := Parse(s)
		if e != api.OK || !plainSame(x, v) {
			t.Fatalf("P20.5: %q: %+v, %d", s, x, e)
		}
		again, e := Print(x)
		if y, f := Parse(again); e != api.OK || f != api.OK || !plainSame(y, x) {
			t.Fatalf("P20.5: %q: %+v, %d, %d", again, y, e, f)
		}
	}
}

// TestEachByte tries each byte: in a text, alone, behind a backslash, and printed.
func TestEachByte(t *testing.T) {
	for i := range 256 {
		c := string([]byte{byte(i)})
		for _, s := range []string{c, `"` + c + `"`, `"\` + c + `"`, `"\u00` + c + `0"`, `"\u000` + c + `"`, `"\u` + c + `00a"`, `"\u0` + c + `0a"`, "[1" + c + "2]", "1" + c, c + "1", `{"a"` + c + `1}`} {
			v, e := Parse(s)
			if want, f := plainParse(t, s); e != f || !plainSame(v, want) {
				t.Errorf("P20.2: Parse(%q): %+v, %d, wanted %+v, %d", s, v, e, want, f)
			}
		}
		s, e := Print(text(c))
		if x, f := Parse(s); s != plainWord(c) || e != api.OK || f != api.OK || x.Text != c {
			t.Errorf("P20.3: byte %d: %s, %d, %d", i, s, e, f)
		}
	}
}
