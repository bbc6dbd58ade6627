package json

import (
	"bytes"
	stdjson "encoding/json"
	"fmt"
	"regexp"
	"slices"
	"strings"
	"testing"

	"theodolite/api"
)

// This file says the chapter anew, in other ways than the package's, to hold the package against it.

// The tokens of a value's text, and what stands for nothing.
var (
	plainText   = regexp.MustCompile(`^"(?:[ !#-\[\]-~]|\\["\\/nt]|\\u00[0-9a-fA-F]{2})*"`)
	plainOther  = regexp.MustCompile(`^(?:null|false|true|0|-?[1-9][0-9]*)`)
	plainMark   = regexp.MustCompile(`^[\[\]{},:]`)
	plainBlank  = regexp.MustCompile(`^[ \t\n\r]+`)
	plainList   = regexp.MustCompile(`\[(?:[vt](?:,[vt])*)?\]`)
	plainObject = regexp.MustCompile(`\{(?:t:[vt](?:,t:[vt])*)?\}`)
)

// plainIsText tells whether s is a value's text, by crossing out the innermost lists and objects till a value is left.
func plainIsText(s string) bool {
	var tokens strings.Builder
	for s != "" {
		switch {
		case plainBlank.MatchString(s):
			s = s[len(plainBlank.FindString(s)):]
		case plainText.MatchString(s):
			s = s[len(plainText.FindString(s)):]
			tokens.WriteByte('t')
		case plainOther.MatchString(s):
			s = s[len(plainOther.FindString(s)):]
			tokens.WriteByte('v')
		case plainMark.MatchString(s):
			tokens.WriteString(s[:1])
			s = s[1:]
		default:
			return false
		}
	}
	left := tokens.String()
	for {
		next := plainObject.ReplaceAllString(plainList.ReplaceAllString(left, "v"), "v")
		if next == left {
			return left == "v" || left == "t"
		}
		left = next
	}
}

// plainBytes is what the library makes of \u00.. as bytes again.
func plainBytes(s string) string {
	var out []byte
	for _, r := range s {
		out = append(out, byte(r))
	}
	return string(out)
}

// plainRead is the value of a text that is one, by the library's own reader of JSON.
func plainRead(t *testing.T, text string) api.Value {
	t.Helper()
	d := stdjson.NewDecoder(strings.NewReader(text))
	d.UseNumber()
	return plainToken(t, d)
}

func plainToken(t *testing.T, d *stdjson.Decoder) api.Value {
	t.Helper()
	token, err := d.Token()
	if err != nil {
		t.Fatalf("the library reads no token: %v", err)
	}
	switch x := token.(type) {
	case nil:
		return api.Value{Sort: api.SortNull}
	case bool:
		if x {
			return api.Value{Sort: api.SortTrue}
		}
		return api.Value{Sort: api.SortFalse}
	case stdjson.Number:
		n, err := x.Int64()
		if err != nil {
			n = api.MaxNum + 1
		}
		return api.Value{Sort: api.SortNum, Num: int(n)}
	case string:
		return api.Value{Sort: api.SortText, Text: plainBytes(x)}
	}
	v := api.Value{Sort: api.SortList}
	if token == stdjson.Delim('{') {
		v.Sort = api.SortObject
	}
	for d.More() {
		if v.Sort == api.SortObject {
			v.Names = append(v.Names, plainToken(t, d).Text)
		}
		v.List = append(v.List, plainToken(t, d))
	}
	if _, err := d.Token(); err != nil {
		t.Fatalf("the library reads no end: %v", err)
	}
	return v
}

// plainFaults puts each fault of P20.1 into the set that v has, but for its depth.
func plainFaults(v api.Value, faults map[string]bool) {
	rest := v
	rest.Sort = 0
	switch v.Sort {
	case api.SortNull, api.SortFalse, api.SortTrue:
	case api.SortNum:
		rest.Num = 0
	case api.SortText:
		rest.Text = ""
	case api.SortList:
		rest.List = nil
	case api.SortObject:
		rest.List, rest.Names = nil, nil
		if len(v.Names) != len(v.List) {
			faults["form"] = true
		}
	default:
		faults["form"] = true
	}
	if rest.Num != 0 || rest.Text != "" || len(rest.List) != 0 || len(rest.Names) != 0 {
		faults["form"] = true
	}
	if v.Num < -999999999999999 || v.Num > 999999999999999 {
		faults["num"] = true
	}
	if len(v.List) > 1024 {
		faults["many"] = true
	}
	for i, name := range v.Names {
		if slices.Contains(v.Names[:i], name) {
			faults["twice"] = true
		}
	}
	for _, x := range v.List {
		plainFaults(x, faults)
	}
}

// plainDepth is how deep v is.
func plainDepth(v api.Value) int {
	if v.Sort != api.SortList && v.Sort != api.SortObject {
		return 0
	}
	deepest := 0
	for _, x := range v.List {
		deepest = max(deepest, plainDepth(x))
	}
	return deepest + 1
}

// plainCheck is P20.1.
func plainCheck(v api.Value) api.Errno {
	faults := map[string]bool{}
	plainFaults(v, faults)
	switch {
	case faults["form"]:
		return api.ErrJsonForm
	case plainDepth(v) > 8:
		return api.ErrJsonDeep
	case faults["num"]:
		return api.ErrJsonNum
	case faults["many"]:
		return api.ErrJsonMany
	case faults["twice"]:
		return api.ErrJsonForm
	}
	return api.OK
}

// plainParse is P20.2.
func plainParse(t *testing.T, text string) (api.Value, api.Errno) {
	t.Helper()
	if len(text) > 16384 {
		return api.Value{}, api.ErrLong
	}
	if !plainIsText(text) {
		return api.Value{}, api.ErrJsonForm
	}
	v := plainRead(t, text)
	if e := plainCheck(v); e != api.OK {
		return api.Value{}, e
	}
	return v, api.OK
}

// plainWord is a text as P20.3 writes it.
func plainWord(s string) string {
	var out bytes.Buffer
	for _, c := range []byte(s) {
		switch {
		case strings.IndexByte(`"\`, c) >= 0:
			out.Write([]byte{'\\', c})
		case c < 32 || c > 126:
			fmt.Fprintf(&out, `\u%04x`, c)
		default:
			out.WriteByte(c)
		}
	}
	return `"` + out.String() + `"`
}

// plainPrint is P20.3.
func plainPrint(v api.Value) (string, api.Errno) {
	if e := plainCheck(v); e != api.OK {
		return "", e
	}
	s := plainSay(v)
	if len(s) > 16384 {
		return "", api.ErrLong
	}
	return s, api.OK
}

func plainSay(v api.Value) string {
	var parts []string
	for i, x := range v.List {
		part := plainSay(x)
		if v.Sort == api.SortObject {
			part = plainWord(v.Names[i]) + ":" + part
		}
		parts = append(parts, part)
	}
	inside := strings.Join(parts, ",")
	switch v.Sort {
	case api.SortNum:
		return fmt.Sprint(v.Num)
	case api.SortText:
		return plainWord(v.Text)
	case api.SortList:
		return "[" + inside + "]"
	case api.SortObject:
		return "{" + inside + "}"
	}
	return []string{"", "null", "false", "true"}[v.Sort]
}

// plainSame tells whether two values are the same one, where a list without elements may be nil or not.
func plainSame(a, b api.Value) bool {
	if a.Sort != b.Sort || a.Num != b.Num || a.Text != b.Text || !slices.Equal(a.Names, b.Names) {
		return false
	}
	return slices.EqualFunc(a.List, b.List, plainSame)
}

// drawn is a source of numbers below a bound, the same ones for the same seed.
func drawn(seed uint64) func(below int) int {
	state := seed*2862933555777941757 + 3037000493
	return func(below int) int {
		state = state*6364136223846793005 + 1442695040888963407
		return int((state >> 33) % uint64(below))
	}
}

// drawnText is a text of any bytes, mostly such as stand in a text.
func drawnText(draw func(int) int) string {
	var out []byte
	for range draw(5) {
		if draw(2) == 0 {
			out = append(out, byte('a'+draw(3)))
		} else {
			out = append(out, []byte{0, 9, 10, 31, 32, '"', '\\', '/', 126, 127, 128, 255, byte(draw(256))}[draw(13)])
		}
	}
	return string(out)
}

// drawnValue is a value that may be, at most so deep.
func drawnValue(draw func(int) int, deep int) api.Value {
	sorts := 7
	if deep == 0 {
		sorts = 5
	}
	switch v := (api.Value{Sort: api.Sort(1 + draw(sorts))}); v.Sort {
	case api.SortNum:
		v.Num = []int{0, 1, -1, 9, 10, -10, 999999999999999, -999999999999999, draw(1000000) - 500000}[draw(9)]
		return v
	case api.SortText:
		v.Text = drawnText(draw)
		return v
	case api.SortList, api.SortObject:
		for range draw(4) {
			name := drawnText(draw)
			if v.Sort == api.SortObject && slices.Contains(v.Names, name) {
				continue
			}
			if v.Sort == api.SortObject {
				v.Names = append(v.Names, name)
			}
			v.List = append(v.List, drawnValue(draw, deep-1))
		}
		return v
	default:
		return v
	}
}
