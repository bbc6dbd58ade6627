package json

import (
	"strconv"

	"theodolite/api"
)

// hex are the digits, of which the n-th is that of the number n.
const hex = "0123456789abcdef"

// writer writes a text. Where that becomes longer than may be, it gives up with api.ErrLong.
type writer struct{ out []byte }

// add writes s.
func (w *writer) add(s string) {
	demand(len(w.out)+len(s) <= api.MaxJson, api.ErrLong)
	w.out = append(w.out, s...)
}

// value writes a value that Check knows to be one.
func (w *writer) value(v api.Value) {
	switch v.Sort {
	case api.SortNull:
		w.add("null")
	case api.SortFalse:
		w.add("false")
	case api.SortTrue:
		w.add("true")
	case api.SortNum:
		w.add(strconv.Itoa(v.Num))
	case api.SortText:
		w.quoted(v.Text)
	case api.SortList:
		w.list(v)
	case api.SortObject:
		w.object(v)
	}
}

// quoted writes a text, byte by byte, so that of a long one no more is written than may be.
func (w *writer) quoted(text string) {
	w.add(`"`)
	for i := range len(text) {
		w.add(character(text[i]))
	}
	w.add(`"`)
}

// character is the one that P20.3 takes for that byte.
func character(c byte) string {
	switch {
	case c == '"' || c == '\\':
		return `\` + string(rune(c))
	case c >= ' ' && c <= '~':
		return string(rune(c))
	}
	return `\u00` + hex[c>>4:c>>4+1] + hex[c&15:c&15+1]
}

// list writes a list.
func (w *writer) list(v api.Value) {
	w.add("[")
	for i, x := range v.List {
		w.comma(i)
		w.value(x)
	}
	w.add("]")
}

// object writes an object.
func (w *writer) object(v api.Value) {
	w.add("{")
	for i, x := range v.List {
		w.comma(i)
		w.quoted(v.Names[i])
		w.add(":")
		w.value(x)
	}
	w.add("}")
}

// comma writes what stands ahead of the element at that place.
func (w *writer) comma(place int) {
	if place > 0 {
		w.add(",")
	}
}
