package codec

import (
	"bytes"
	"encoding/binary"
	"hash/crc32"
	"math"
	"slices"
	"strings"
	"testing"

	"theodolite/api"
)

const top = api.MaxCoord

func row(id int, v ...int) api.Row { return api.Row{Id: id, V: v} }

func put(id int, v ...int) api.Change {
	return api.Change{Kind: api.ChangePut, Id: id, V: v}
}

func gone(id int) api.Change { return api.Change{Kind: api.ChangeDelete, Id: id} }

// filled is a vector of n coordinates, all x.
func filled(n, x int) []int { return slices.Repeat([]int{x}, n) }

// many is n rows of dimension dim, with the ids 1 to n.
func many(n, dim int) []api.Row {
	var rows []api.Row
	for i := range n {
		rows = append(rows, row(i+1, filled(dim, i-n/2)...))
	}
	return rows
}

// drawn is a stream of numbers that the seed tells.
func drawn(seed uint64) func(int) int {
	return func(n int) int {
		seed = seed*6364136223846793005 + 1442695040888963407
		return int((seed >> 33) % uint64(n))
	}
}

func drawnBytes(draw func(int) int, n int) []byte {
	b := make([]byte, n)
	for i := range b {
		b[i] = byte(draw(256))
	}
	return b
}

// drawnVector has coordinates near to nought, anywhere, or at the ends.
func drawnVector(draw func(int) int, dim int) []int {
	v := make([]int, dim)
	for i := range v {
		switch draw(3) {
		case 0:
			v[i] = draw(top) - draw(top)
		case 1:
			v[i] = []int{-top, 1 - top, -1, 0, 1, top - 1, top}[draw(7)]
		default:
			v[i] = draw(11) - 5
		}
	}
	return v
}

// drawnRows have rising ids, the last perhaps the greatest that may be.
func drawnRows(draw func(int) int, n, dim int) []api.Row {
	var rows []api.Row
	id := 0
	for range n {
		id += 1 + draw(api.MaxId/512)
		rows = append(rows, row(id, drawnVector(draw, dim)...))
	}
	if n > 0 && draw(4) == 0 {
		rows[n-1].Id = api.MaxId
	}
	return rows
}

func drawnChange(draw func(int) int) api.Change {
	id := []int{1, 2, 255, 256, 65536, api.MaxId - 1, api.MaxId, 1 + draw(api.MaxId)}[draw(8)]
	if draw(3) == 0 {
		return gone(id)
	}
	return put(id, drawnVector(draw, 1+draw(64))...)
}

// plainRecord says a record anew, by the library's own numbers and check.
func plainRecord(kind byte, body string) []byte {
	b := binary.LittleEndian.AppendUint32([]byte{kind}, uint32(len(body)))
	b = binary.LittleEndian.AppendUint32(b, crc32.ChecksumIEEE(append([]byte{kind}, body...)))
	return append(b, body...)
}

func plainCoords(b []byte, v []int) []byte {
	for _, x := range v {
		if x < 0 {
			x += 4294967296
		}
		b = binary.LittleEndian.AppendUint32(b, uint32(x))
	}
	return b
}

func plainChange(c api.Change) string {
	b := binary.LittleEndian.AppendUint32([]byte{byte(c.Kind)}, uint32(c.Id))
	if c.Kind == api.ChangePut {
		b = plainCoords(append(b, byte(len(c.V))), c.V)
	}
	return string(b)
}

func plainRows(rows []api.Row) string {
	if len(rows) == 0 {
		return "\x00\x00\x00"
	}
	b := binary.LittleEndian.AppendUint16([]byte{byte(len(rows[0].V))}, uint16(len(rows)))
	for _, r := range rows {
		b = plainCoords(binary.LittleEndian.AppendUint32(b, uint32(r.Id)), r.V)
	}
	return string(b)
}

// plainId tells whether the first 4 bytes of s are an id above last.
func plainId(s string, last int) bool {
	id := int(binary.LittleEndian.Uint32([]byte(s)))
	return id > last && id <= 1000000000
}

// plainVector tells whether the bytes of s are coordinates: all numbers may be but the one that lies below all.
func plainVector(s string) bool {
	for i := 0; i < len(s); i += 4 {
		if s[i:i+4] == "\x00\x00\x00\x80" {
			return false
		}
	}
	return true
}

// isChange tells by the chapter's words whether s is a change's text.
func isChange(s string) bool {
	if len(s) < 5 || !plainId(s[1:5], 0) {
		return false
	}
	if s[0] == 2 {
		return len(s) == 5
	}
	if s[0] != 1 || len(s) < 6 {
		return false
	}
	dim := int(s[5])
	return dim >= 1 && dim <= 64 && len(s) == 6+4*dim && plainVector(s[6:])
}

// isRows tells by the chapter's words whether s is some rows' text.
func isRows(s string) bool {
	if len(s) < 3 {
		return false
	}
	dim, count := int(s[0]), int(s[1])+256*int(s[2])
	if count == 0 {
		return dim == 0 && len(s) == 3
	}
	if dim < 1 || dim > 64 || count > 512 || len(s) != 3+count*(4+4*dim) {
		return false
	}
	last := 0
	for s = s[3:]; s != ""; s = s[4+4*dim:] {
		if !plainId(s, last) || !plainVector(s[4:4+4*dim]) {
			return false
		}
		last = int(binary.LittleEndian.Uint32([]byte(s[:4])))
	}
	return true
}

func encodeIs(t *testing.T, kind int, body string, want []byte, wrong api.Errno) {
	t.Helper()
	if b, e := Encode(kind, body); !bytes.Equal(b, want) || e != wrong {
		t.Errorf("P16.2: Encode(%d, of %d bytes): %.40x, %d: want %.40x, %d", kind, len(body), b, e, want, wrong)
	}
}

func decodeIs(t *testing.T, b []byte, kind int, body string, used int, wrong api.Errno) {
	t.Helper()
	if k, s, n, e := Decode(b); k != kind || s != body || n != used || e != wrong {
		t.Errorf("P16.3: Decode(%.40x, of %d bytes): %d, %.40q, %d, %d: want %d, %.40q, %d, %d", b, len(b), k, s, n, e, kind, body, used, wrong)
	}
}

func decodeFails(t *testing.T, b []byte, wrong api.Errno) {
	t.Helper()
	decodeIs(t, b, 0, "", 0, wrong)
}

func putChangeIs(t *testing.T, c api.Change, want string, wrong api.Errno) {
	t.Helper()
	if s, e := PutChange(c); s != want || e != wrong {
		t.Errorf("P16.4: PutChange(%v): %x, %d: want %x, %d", c, s, e, want, wrong)
	}
}

func sameChange(a, b api.Change) bool {
	return a.Kind == b.Kind && a.Id == b.Id && slices.Equal(a.V, b.V)
}

func getChangeIs(t *testing.T, s string, want api.Change, wrong api.Errno) {
	t.Helper()
	if c, e := GetChange(s); !sameChange(c, want) || e != wrong {
		t.Errorf("P16.4: GetChange(%x): %v, %d: want %v, %d", s, c, e, want, wrong)
	}
}

func getChangeFails(t *testing.T, s string) {
	t.Helper()
	getChangeIs(t, s, api.Change{}, api.ErrCodecForm)
}

func putRowsIs(t *testing.T, rows []api.Row, want string, wrong api.Errno) {
	t.Helper()
	if s, e := PutRows(rows); s != want || e != wrong {
		t.Errorf("P16.5: PutRows(of %d): %.40x, %d: want %.40x, %d", len(rows), s, e, want, wrong)
	}
}

func sameRows(a, b []api.Row) bool {
	return slices.EqualFunc(a, b, func(x, y api.Row) bool { return x.Id == y.Id && slices.Equal(x.V, y.V) })
}

func getRowsIs(t *testing.T, s string, want []api.Row, wrong api.Errno) {
	t.Helper()
	if rows, e := GetRows(s); !sameRows(rows, want) || e != wrong {
		t.Errorf("P16.5: GetRows(%.40x, of %d bytes): %d rows, %d: want %d, %d", s, len(s), len(rows), e, len(want), wrong)
	}
}

func getRowsFails(t *testing.T, s string) {
	t.Helper()
	getRowsIs(t, s, nil, api.ErrCodecForm)
}

// The chapter's table, line by line.
func TestExamples(t *testing.T) {
	if a, b := Sum(nil), Sum([]byte("123456789")); a != 0 || b != 0xcbf43926 {
		t.Errorf("P16.1: %x, %x", a, b)
	}
	b, e := Encode(1, "a")
	if e != api.OK || len(b) != 10 || string(b[:5]) != "\x01\x01\x00\x00\x00" {
		t.Errorf("P16.2: %x, %d", b, e)
	}
	decodeIs(t, append(b, 0xff), 1, "a", 10, api.OK)
	encodeIs(t, 0, "a", nil, api.ErrCodecKind)
	decodeFails(t, make([]byte, 8), api.ErrCodecForm)
	decodeFails(t, make([]byte, 9), api.ErrCodecKind)
	putChangeIs(t, gone(5), "\x02\x05\x00\x00\x00", api.OK)
	putChangeIs(t, put(5, -1, 2), "\x01\x05\x00\x00\x00\x02\xff\xff\xff\xff\x02\x00\x00\x00", api.OK)
	putRowsIs(t, nil, "\x00\x00\x00", api.OK)
	putRowsIs(t, []api.Row{row(7, 3)}, "\x01\x01\x00\x07\x00\x00\x00\x03\x00\x00\x00", api.OK)
	getChangeFails(t, "\x03\x05\x00\x00\x00")
	getRowsFails(t, "\x00")
	putRowsIs(t, []api.Row{row(7, 1), row(5, 1)}, "", api.ErrFlatId)
}

// Sum is held against the library's own check, at all bytes, at lengths from none on, and at the longest body.
func TestSum(t *testing.T) {
	sumIs := func(b []byte) {
		t.Helper()
		if n, want := Sum(b), crc32.ChecksumIEEE(b); n != want {
			t.Errorf("P16.1: Sum(%.40x, of %d bytes): %x: want %x", b, len(b), n, want)
		}
	}
	for x := range 256 {
		sumIs([]byte{byte(x)})
		sumIs([]byte{byte(x), 0})
		sumIs([]byte{0, byte(x)})
	}
	draw := drawn(16)
	for n := range 600 {
		sumIs(drawnBytes(draw, n))
		sumIs(make([]byte, n))
		sumIs(bytes.Repeat([]byte{255}, n))
	}
	sumIs(drawnBytes(draw, api.MaxSnap+1))
	sumIs([]byte{})
}

// All kinds, and bodies up to the longest one: P16.2, P16.3, and that what is put is got again (P16.6).
func TestRecords(t *testing.T) {
	draw := drawn(2)
	bodies := []string{"", "\x00", "a", "\xff\xff", strings.Repeat("\x00", 9), string(drawnBytes(draw, 255)), string(drawnBytes(draw, 256)), string(drawnBytes(draw, 65536))}
	for kind := 1; kind <= 255; kind++ {
		for _, body := range bodies[:7] {
			recordIs(t, kind, body)
		}
	}
	for _, body := range append(bodies, string(drawnBytes(draw, api.MaxSnap-1)), string(drawnBytes(draw, api.MaxSnap))) {
		recordIs(t, 255, body)
	}
}

// recordIs tells whether the record is encoded as it should be, decoded with anything or nothing behind it, and refused if a byte lacks.
func recordIs(t *testing.T, kind int, body string) {
	t.Helper()
	want := plainRecord(byte(kind), body)
	encodeIs(t, kind, body, want, api.OK)
	for _, behind := range []string{"", "\x00", "\xff", string(want)} {
		decodeIs(t, append(slices.Clone(want), behind...), kind, body, len(want), api.OK)
	}
	decodeFails(t, want[:len(want)-1], api.ErrCodecForm)
}

// Records that stand behind one another are decoded one by one.
func TestRecordsInARow(t *testing.T) {
	draw := drawn(3)
	var all []byte
	var bodies []string
	for i := range 100 {
		bodies = append(bodies, string(drawnBytes(draw, draw(40))))
		b, _ := Encode(i+1, bodies[i])
		all = append(all, b...)
	}
	for i, body := range bodies {
		decodeIs(t, all, i+1, body, 9+len(body), api.OK)
		all = all[9+len(body):]
	}
	decodeFails(t, all, api.ErrCodecForm)
}

// A kind that may not be comes ahead of a body that is too long.
func TestEncodeErrors(t *testing.T) {
	long := strings.Repeat("a", api.MaxSnap+1)
	for _, kind := range []int{math.MinInt, -255, -1, 0, 256, 257, 1 << 32, 1<<32 + 1, math.MaxInt} {
		encodeIs(t, kind, "", nil, api.ErrCodecKind)
		encodeIs(t, kind, long, nil, api.ErrCodecKind)
	}
	for _, kind := range []int{1, 2, 255} {
		encodeIs(t, kind, long, nil, api.ErrLong)
		encodeIs(t, kind, long+long, nil, api.ErrLong)
	}
}

// head is a record's first 9 bytes.
func head(kind byte, length, check uint32) []byte {
	b := binary.LittleEndian.AppendUint32([]byte{kind}, length)
	return binary.LittleEndian.AppendUint32(b, check)
}

// The errors in the order in which P16.3 names them.
func TestDecodeErrors(t *testing.T) {
	for n := range 9 {
		decodeFails(t, make([]byte, n), api.ErrCodecForm)
		decodeFails(t, bytes.Repeat([]byte{255}, n), api.ErrCodecForm)
		decodeFails(t, plainRecord(1, "")[:n], api.ErrCodecForm)
	}
	decodeFails(t, nil, api.ErrCodecForm)
	for _, length := range []uint32{0, 1, 262144, 262145, math.MaxUint32} {
		decodeFails(t, head(0, length, 0), api.ErrCodecKind)
	}
	decodeFails(t, plainRecord(0, ""), api.ErrCodecKind)
	decodeFails(t, plainRecord(0, "abc"), api.ErrCodecKind)
	for _, length := range []uint32{262145, 327680, 1 << 24, math.MaxInt32, 1 << 31, math.MaxUint32} {
		decodeFails(t, head(1, length, 0), api.ErrLong)
		decodeFails(t, append(head(255, length, 7), make([]byte, 400)...), api.ErrLong)
	}
	decodeFails(t, plainRecord(1, strings.Repeat("a", api.MaxSnap+1)), api.ErrLong)
	for _, length := range []uint32{1, 2, 256, 65536, 262143, 262144} {
		decodeFails(t, head(1, length, 0), api.ErrCodecForm)
	}
	full := plainRecord(9, strings.Repeat("a", api.MaxSnap))
	decodeFails(t, full[:len(full)-1], api.ErrCodecForm)
	full[5]++
	decodeFails(t, full[:len(full)-1], api.ErrCodecForm)
	decodeFails(t, full, api.ErrCodecSum)
	decodeFails(t, append(full, 0), api.ErrCodecSum)
	// The check is of the kind and the body, not of one of them alone.
	decodeFails(t, append(head(1, 1, crc32.ChecksumIEEE([]byte("a"))), 'a'), api.ErrCodecSum)
	decodeFails(t, append(head(1, 1, crc32.ChecksumIEEE([]byte{1})), 'a'), api.ErrCodecSum)
	decodeFails(t, head(1, 0, 0), api.ErrCodecSum)
}

// Whatever byte of the kind, the check or the body is another one, the record is refused; one less is too: P16.6.
func TestSpoiltRecords(t *testing.T) {
	for _, body := range []string{"", "a", "\x00\x00\x00", strings.Repeat("theodolite", 5)} {
		whole := plainRecord(7, body)
		for i := range whole {
			decodeFails(t, whole[:i], api.ErrCodecForm)
			if i >= 1 && i < 5 {
				continue
			}
			for x := 1; x < 256; x++ {
				spoilt := slices.Clone(whole)
				spoilt[i] ^= byte(x)
				wrong := api.ErrCodecSum
				if spoilt[0] == 0 {
					wrong = api.ErrCodecKind
				}
				decodeFails(t, spoilt, wrong)
			}
		}
	}
}

// Any bytes are answered; those that are taken are what Encode gives: P16.6, T8.
func TestDecodeAnyBytes(t *testing.T) {
	draw := drawn(4)
	for range 20000 {
		b := drawnBytes(draw, draw(30))
		if len(b) >= 9 && draw(4) > 0 {
			// A length of the kind that may be, and a check that is right as often as not.
			copy(b[1:5], []byte{byte(draw(20)), 0, 0, 0})
			if n := 9 + int(b[1]); n <= len(b) && draw(2) == 0 {
				copy(b, plainRecord(b[0], string(b[9:n])))
			}
		}
		kind, body, used, e := Decode(b)
		if e != api.OK {
			decodeFails(t, b, e)
			continue
		}
		if again, e := Encode(kind, body); e != api.OK || !bytes.Equal(again, b[:used]) {
			t.Fatalf("P16.6: %x is taken, but %x encoded, %d", b, again, e)
		}
	}
}

// What is put is got again, as the same text; a byte more, or one less, is refused: P16.4, P16.6.
func TestChanges(t *testing.T) {
	draw := drawn(5)
	changes := []api.Change{gone(1), gone(api.MaxId), put(1, 0), put(api.MaxId, -top), put(1, top), put(9, filled(64, -top)...), put(9, filled(64, -1)...), put(256, 1, -1, 256, -256, 65536, -65536, 16777216, -16777216)}
	for range 2000 {
		changes = append(changes, drawnChange(draw))
	}
	for _, c := range changes {
		text := plainChange(c)
		putChangeIs(t, c, text, api.OK)
		getChangeIs(t, text, c, api.OK)
		for n := range len(text) {
			getChangeFails(t, text[:n])
		}
		for _, more := range []string{"\x00", "\x01", "\xff", "\x00\x00\x00\x00", text} {
			getChangeFails(t, text+more)
		}
	}
	c := gone(5)
	c.V = []int{}
	putChangeIs(t, c, "\x02\x05\x00\x00\x00", api.OK)
}

// The errors in the order in which P16.4 names them.
func TestPutChangeErrors(t *testing.T) {
	vectors := [][]int{nil, {1}, {top + 1}, filled(65, 0)}
	ids := []int{math.MinInt, -1, 0, api.MaxId + 1, 1 << 32, 1<<32 + 1, math.MaxInt}
	for _, v := range vectors {
		for _, k := range []api.ChangeKind{math.MinInt, -1, 0, 3, 257, 258, 1<<32 + 1, math.MaxInt} {
			for _, id := range append(ids, 1) {
				putChangeIs(t, api.Change{Kind: k, Id: id, V: v}, "", api.ErrCodecKind)
			}
		}
		for _, id := range ids {
			putChangeIs(t, api.Change{Kind: api.ChangePut, Id: id, V: v}, "", api.ErrFlatId)
			putChangeIs(t, api.Change{Kind: api.ChangeDelete, Id: id, V: v}, "", api.ErrFlatId)
		}
	}
	for _, v := range [][]int{nil, {}, filled(65, 0), filled(65, top+1), filled(256, 0), filled(257, 0)} {
		putChangeIs(t, put(1, v...), "", api.ErrVecDim)
	}
	for _, x := range []int{math.MinInt, -1 << 32, -top - 1, top + 1, 1 << 32, math.MaxInt} {
		putChangeIs(t, put(1, x), "", api.ErrVecCoord)
		putChangeIs(t, put(1, append(filled(63, 0), x)...), "", api.ErrVecCoord)
	}
	for _, v := range [][]int{{0}, {1, 2}, {top + 1}, filled(65, 0)} {
		putChangeIs(t, api.Change{Kind: api.ChangeDelete, Id: 1, V: v}, "", api.ErrArg)
	}
}

// Texts that have a change's form, but say what no change has.
func TestGetChangeErrors(t *testing.T) {
	for _, c := range []api.Change{{Kind: 0, Id: 1}, {Kind: 3, Id: 1}, {Kind: 255, Id: 1},
		gone(0), gone(api.MaxId + 1), gone(1 << 31), gone(math.MaxUint32),
		put(0, 1), put(api.MaxId+1, 1), put(1<<31+1, 1), put(math.MaxUint32, 1),
		put(1), put(1, filled(65, 0)...), put(1, filled(255, 0)...),
		put(1, -top-1), put(1, 5, -top-1), put(1, append(filled(63, 0), -top-1)...)} {
		getChangeFails(t, plainChange(c))
	}
	getChangeFails(t, "")
	getChangeFails(t, strings.Repeat("\x01", 1000000))
	getChangeFails(t, "\x02"+plainChange(put(1, 1))[1:])
	getChangeFails(t, "\x01"+plainChange(gone(1))[1:])
}

// Whatever byte is another one, a text is taken just if it is a change's, and then put as the same: P16.4, P16.6.
func TestGetChangeAnyText(t *testing.T) {
	for _, c := range []api.Change{gone(1), gone(api.MaxId), put(1, 0), put(api.MaxId, -1, 1-top), put(77, top, 3, -128<<24+1)} {
		eachSpoilt(plainChange(c), func(s string) { changeTextIs(t, s) })
	}
	draw := drawn(6)
	for range 20000 {
		changeTextIs(t, drawnText(draw, plainChange(drawnChange(draw))))
	}
	// All texts of few bytes, of which some stand for edges.
	eachShort(5, func(s string) { changeTextIs(t, s) })
}

func changeTextIs(t *testing.T, s string) {
	t.Helper()
	if !isChange(s) {
		getChangeFails(t, s)
		return
	}
	c, e := GetChange(s)
	if e != api.OK || plainChange(c) != s {
		t.Fatalf("P16.4: GetChange(%x): %v, %d", s, c, e)
	}
	putChangeIs(t, c, s, api.OK)
}

// eachSpoilt calls use with s as it is, and with each byte as each other one.
func eachSpoilt(s string, use func(string)) {
	for i := range len(s) {
		for x := range 256 {
			use(s[:i] + string([]byte{byte(x)}) + s[i+1:])
		}
	}
}

// eachShort calls use with all texts of at most most bytes, each being one of those that stand at an edge.
func eachShort(most int, use func(string)) {
	var more func(s string)
	more = func(s string) {
		use(s)
		if len(s) == most {
			return
		}
		for _, x := range []byte{0, 1, 2, 3, 0x3b, 0x80, 0xff} {
			more(s + string([]byte{x}))
		}
	}
	more("")
}

// drawnText is s with some bytes other ones, or some fewer, or more.
func drawnText(draw func(int) int, s string) string {
	b := []byte(s)
	for range draw(4) {
		b[draw(len(b))] = []byte{0, 1, 0x7f, 0x80, 0xff, byte(draw(256))}[draw(6)]
	}
	switch draw(4) {
	case 0:
		b = b[:draw(len(b)+1)]
	case 1:
		b = append(b, drawnBytes(draw, draw(9))...)
	}
	return string(b)
}

// What is put is got again, as the same text; a byte more, or one less, is refused: P16.5, P16.6.
func TestRows(t *testing.T) {
	draw := drawn(7)
	lists := [][]api.Row{nil, {}, many(1, 1), many(1, 64), many(255, 1), many(256, 1), many(257, 2), many(511, 3), many(512, 1), many(512, 64),
		{row(api.MaxId, -top)}, {row(1, top), row(2, -1), row(api.MaxId, -top)}, {row(999999999, 0), row(1000000000, 0)}}
	for range 300 {
		lists = append(lists, drawnRows(draw, draw(60), 1+draw(64)))
	}
	for range 5 {
		lists = append(lists, drawnRows(draw, 512, 1+draw(64)))
	}
	for _, rows := range lists {
		text := plainRows(rows)
		putRowsIs(t, rows, text, api.OK)
		getRowsIs(t, text, rows, api.OK)
		for n := range min(len(text), 12) {
			getRowsFails(t, text[:n])
		}
		getRowsFails(t, text[:len(text)-1])
		getRowsFails(t, text[:len(text)/2])
		for _, more := range []string{"\x00", "\xff", "\x00\x00\x00\x00", text} {
			getRowsFails(t, text+more)
		}
	}
	if n := len(plainRows(many(512, 64))); n > api.MaxSnap {
		t.Errorf("P16.2: all rows have %d bytes, which no record's body has room for", n)
	}
}

// The errors in the order in which P16.5 and flat.Check name them.
func TestPutRowsErrors(t *testing.T) {
	for _, n := range []int{0, 65, 256, 257} {
		putRowsIs(t, []api.Row{row(1, filled(n, 0)...)}, "", api.ErrVecDim)
		putRowsIs(t, []api.Row{row(0, filled(n, 0)...), row(1, 1)}, "", api.ErrVecDim)
		putRowsIs(t, many(513, n), "", api.ErrVecDim)
		putRowsIs(t, []api.Row{row(1, 1), row(2, filled(n, 0)...)}, "", api.ErrVecDim)
	}
	putRowsIs(t, many(513, 1), "", api.ErrLong)
	putRowsIs(t, many(65536, 1), "", api.ErrLong)
	putRowsIs(t, append([]api.Row{row(0, 1)}, many(512, 1)...), "", api.ErrLong)
	for _, id := range []int{math.MinInt, -1, 0, api.MaxId + 1, 1<<32 + 1, math.MaxInt} {
		putRowsIs(t, []api.Row{row(id, 1)}, "", api.ErrFlatId)
		putRowsIs(t, []api.Row{row(id, top+1)}, "", api.ErrFlatId)
		putRowsIs(t, []api.Row{row(1, 1), row(id, 1, 2)}, "", api.ErrFlatId)
	}
	putRowsIs(t, []api.Row{row(7, 1), row(7, 1, 2)}, "", api.ErrFlatId)
	putRowsIs(t, []api.Row{row(7, 1), row(8, 1), row(7, 1)}, "", api.ErrFlatId)
	for _, x := range []int{math.MinInt, -top - 1, top + 1, 1 << 32, math.MaxInt} {
		putRowsIs(t, []api.Row{row(1, x)}, "", api.ErrVecCoord)
		putRowsIs(t, []api.Row{row(9, 1), row(2, x), row(0, 1)}, "", api.ErrVecCoord)
	}
	// That ids do not rise comes behind what is wrong with any row.
	putRowsIs(t, []api.Row{row(9, 1), row(2, 1), row(3, 1, 2)}, "", api.ErrVecDim)
	putRowsIs(t, []api.Row{row(9, 1), row(2, 1)}, "", api.ErrFlatId)
	putRowsIs(t, []api.Row{row(1, 1), row(3, 1), row(2, 1)}, "", api.ErrFlatId)
	all := many(512, 2)
	all[510], all[511] = all[511], all[510]
	putRowsIs(t, all, "", api.ErrFlatId)
}

// Texts that have the form, but say what no rows have.
func TestGetRowsErrors(t *testing.T) {
	for _, rows := range [][]api.Row{
		{row(0, 1)}, {row(api.MaxId+1, 1)}, {row(1<<31+1, 1)}, {row(math.MaxUint32, 1)},
		{row(1)}, {row(1), row(2)}, {row(1, filled(65, 0)...)}, {row(1, filled(255, 0)...)},
		{row(1, -top-1)}, {row(1, 1), row(2, -top-1)}, {row(1, append(filled(63, 0), -top-1)...)},
		{row(2, 1), row(1, 1)}, {row(1, 1), row(1, 1)}, {row(1, 1), row(3, 1), row(2, 1)}, many(513, 1), many(65535, 1), many(513, 64)} {
		getRowsFails(t, plainRows(rows))
	}
	for dim := 1; dim < 256; dim++ {
		getRowsFails(t, string([]byte{byte(dim), 0, 0}))
	}
	getRowsFails(t, "")
	getRowsFails(t, "\x00\x00")
	getRowsFails(t, "\x00\x01\x00")
	// A text that speaks of more than it has is refused at once: were room made for it, these would take minutes.
	for range 20000 {
		getRowsFails(t, "\xff\xff\xff")
		getRowsFails(t, "\x40\xff\xff\x01\x00\x00\x00")
	}
}

// Whatever byte is another one, a text is taken just if it is some rows', and then put as the same: P16.5, P16.6.
func TestGetRowsAnyText(t *testing.T) {
	for _, rows := range [][]api.Row{nil, {row(7, 3)}, {row(1, 0), row(2, -1)}, {row(254, 1, 1-top), row(256, 5, 6), row(api.MaxId, 0, top)}} {
		eachSpoilt(plainRows(rows), func(s string) { rowsTextIs(t, s) })
	}
	draw := drawn(8)
	for range 20000 {
		rowsTextIs(t, drawnText(draw, plainRows(drawnRows(draw, draw(5), 1+draw(4)))))
	}
	eachShort(5, func(s string) { rowsTextIs(t, s) })
	eachShort(4, func(s string) { rowsTextIs(t, "\x01\x01\x00"+s+"\x01\x00\x00\x80") })
	eachShort(4, func(s string) { rowsTextIs(t, "\x01\x01\x00\x01\x00\x00\x00"+s) })
}

func rowsTextIs(t *testing.T, s string) {
	t.Helper()
	if !isRows(s) {
		getRowsFails(t, s)
		return
	}
	rows, e := GetRows(s)
	if e != api.OK || plainRows(rows) != s {
		t.Fatalf("P16.5: GetRows(%x): %v, %d", s, rows, e)
	}
	putRowsIs(t, rows, s, api.OK)
}

// What is handed in is not written into, nor its spare room: R2.
func TestNothingIsWritten(t *testing.T) {
	b := append(plainRecord(3, "abc"), "behind"...)
	kept := slices.Clone(b)
	Sum(b[:5])
	Decode(b[:12])
	Decode(b[:5])
	if !bytes.Equal(b, kept) {
		t.Errorf("R2: the bytes became %x", b)
	}
	v := []int{1, 2, 3}
	rows := []api.Row{row(1, 4, 5), row(2, 6, 7), row(3)}
	PutChange(put(5, v[:2]...))
	PutRows(rows[:2])
	if !slices.Equal(v, []int{1, 2, 3}) || !sameRows(rows, []api.Row{row(1, 4, 5), row(2, 6, 7), row(3)}) {
		t.Errorf("R2: what was handed in became %v, %v", v, rows)
	}
}

// What comes out is new memory, list by list: R2.
func TestAnswersAreNew(t *testing.T) {
	b := plainRecord(3, "abc")
	_, body, _, _ := Decode(b)
	clear(b)
	if body != "abc" {
		t.Errorf("R2: the body became %q", body)
	}
	one, _ := Encode(3, "abc")
	clear(one[:cap(one)])
	encodeIs(t, 3, "abc", plainRecord(3, "abc"), api.OK)

	text := plainRows([]api.Row{row(1, 4, 5), row(2, 6, 7)})
	rows, _ := GetRows(text)
	_ = append(rows[0].V, 8, 9)
	clear(rows[0].V[:cap(rows[0].V)])
	if !slices.Equal(rows[1].V, []int{6, 7}) {
		t.Errorf("R2: a row's vector was in another one's room: %v", rows)
	}
	getRowsIs(t, text, []api.Row{row(1, 4, 5), row(2, 6, 7)}, api.OK)

	change, _ := GetChange(plainChange(put(1, 4, 5)))
	clear(change.V)
	getChangeIs(t, plainChange(put(1, 4, 5)), put(1, 4, 5), api.OK)
}
