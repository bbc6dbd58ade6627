package json

import (
	"strings"

	"theodolite/api"
)

// reader reads a text from a place on. Where there is nothing that may stand there, it gives up with api.ErrJsonForm.
type reader struct {
	text string
	at   int
}

// blank are the bytes that may stand round what has a meaning.
const blank = " \t\n\r"

// pastDigits is a number of digits with which a number is above api.MaxNum, and below 2 to the power of 63.
const pastDigits = 16

// peek is the byte that is next, or 0 at the text's end, a byte that may stand nowhere.
func (r *reader) peek() byte {
	if r.at >= len(r.text) {
		return 0
	}
	return r.text[r.at]
}

// next is the byte that is next; it is read.
func (r *reader) next() byte {
	c := r.peek()
	r.at++
	return c
}

// skip reads blanks.
func (r *reader) skip() {
	for strings.IndexByte(blank, r.peek()) >= 0 {
		r.at++
	}
}

// mark reads that byte, and the blanks round it.
func (r *reader) mark(c byte) {
	r.skip()
	demand(r.next() == c, api.ErrJsonForm)
	r.skip()
}

// value reads a value, and the blanks round it.
func (r *reader) value() api.Value {
	r.skip()
	v := r.bare()
	r.skip()
	return v
}

// bare reads a value. Its first byte tells its sort.
func (r *reader) bare() api.Value {
	switch r.peek() {
	case 'n':
		return r.word("null", api.SortNull)
	case 'f':
		return r.word("false", api.SortFalse)
	case 't':
		return r.word("true", api.SortTrue)
	case '"':
		return api.Value{Sort: api.SortText, Text: r.quoted()}
	case '[':
		return r.list()
	case '{':
		return r.object()
	}
	return r.number()
}

// word reads that word, which stands for a value of that sort.
func (r *reader) word(word string, sort api.Sort) api.Value {
	demand(strings.HasPrefix(r.text[r.at:], word), api.ErrJsonForm)
	r.at += len(word)
	return api.Value{Sort: sort}
}

// number reads a number. Of one that has more digits than may be the first ones will do: they are above api.MaxNum, too.
func (r *reader) number() api.Value {
	below := r.peek() == '-'
	if below {
		r.at++
	}
	begin := r.at
	for r.peek() >= '0' && r.peek() <= '9' {
		r.at++
	}
	digits := r.text[begin:r.at]
	demand(digits != "", api.ErrJsonForm)
	demand(digits[0] != '0' || digits == "0" && !below, api.ErrJsonForm)
	n := 0
	for i := range min(len(digits), pastDigits) {
		n = 10*n + int(digits[i]-'0')
	}
	if below {
		n = -n
	}
	return api.Value{Sort: api.SortNum, Num: n}
}

// quoted reads a text.
func (r *reader) quoted() string {
	demand(r.next() == '"', api.ErrJsonForm)
	var out []byte
	for r.peek() != '"' {
		out = append(out, r.character())
	}
	r.at++
	return string(out)
}

// character reads one of a text, and tells the byte for which it stands.
func (r *reader) character() byte {
	c := r.next()
	demand(c >= ' ' && c <= '~', api.ErrJsonForm)
	if c != '\\' {
		return c
	}
	c = r.next()
	switch c {
	case '"', '\\', '/':
		return c
	case 'n':
		return '\n'
	case 't':
		return '\t'
	}
	demand(c == 'u' && r.next() == '0' && r.next() == '0', api.ErrJsonForm)
	high := r.digit()
	return high<<4 | r.digit()
}

// digit reads one of the sixteen digits, and tells its number.
func (r *reader) digit() byte {
	c := r.next()
	switch {
	case c >= '0' && c <= '9':
		return c - '0'
	case c >= 'a' && c <= 'f':
		return c - 'a' + 10
	}
	demand(c >= 'A' && c <= 'F', api.ErrJsonForm)
	return c - 'A' + 10
}

// list reads a list.
func (r *reader) list() api.Value {
	v := api.Value{Sort: api.SortList}
	r.parts('[', ']', func() {
		v.List = append(v.List, r.value())
	})
	return v
}

// object reads an object.
func (r *reader) object() api.Value {
	v := api.Value{Sort: api.SortObject}
	r.parts('{', '}', func() {
		v.Names = append(v.Names, r.quoted())
		r.mark(':')
		v.List = append(v.List, r.value())
	})
	return v
}

// parts reads what stands between begin and end, part by part.
func (r *reader) parts(begin, end byte, part func()) {
	r.mark(begin)
	if r.peek() != end {
		part()
		for r.peek() == ',' {
			r.mark(',')
			part()
		}
	}
	demand(r.next() == end, api.ErrJsonForm)
}
