package codec

// How many bytes a number of each sort has.
const (
	kindBytes   = 1
	lengthBytes = 4
	checkBytes  = 4
	idBytes     = 4
	dimBytes    = 1
	countBytes  = 2
	coordBytes  = 4
)

// maxKind is the greatest kind that a record's first byte can say.
const maxKind = 255

// turns is what P16.1 lays over a number whose lowest bit was 1.
const turns uint32 = 0xedb88320

// overlaid is what becomes of c by b's bytes, in P16.1's way.
func overlaid(c uint32, b []byte) uint32 {
	for _, x := range b {
		c ^= uint32(x)
		for range 8 {
			low := c & 1
			c >>= 1
			if low == 1 {
				c ^= turns
			}
		}
	}
	return c
}

// taker gives two closures over b. take takes the first n bytes off, as new memory; where there are too few, noughts stand for them.
// left tells how many bytes are still there, or -1, if there were too few at any time: so one question behind many takes will do.
func taker(b []byte) (take func(n int) []byte, left func() int) {
	short := false
	take = func(n int) []byte {
		out := make([]byte, n)
		got := copy(out, b)
		b = b[got:]
		short = short || got < n
		return out
	}
	left = func() int {
		if short {
			return -1
		}
		return len(b)
	}
	return take, left
}

// number is the number whose bytes, at most 4, these are, the lowest first.
func number(b []byte) uint32 {
	var n uint32
	for i, x := range b {
		n |= uint32(x) << (8 * i)
	}
	return n
}

// vector takes dim coordinates off. (An int32 says a number below 0 just as the text does.)
func vector(take func(n int) []byte, dim int) []int {
	v := make([]int, dim)
	for i := range v {
		v[i] = int(int32(number(take(coordBytes))))
	}
	return v
}

// withNumber is b, and behind it the lowest bytes of n, so many as size says, the lowest first.
func withNumber(b []byte, n uint32, size int) []byte {
	for range size {
		b = append(b, byte(n))
		n >>= 8
	}
	return b
}

// withVector is b, and behind it the coordinates.
func withVector(b []byte, v []int) []byte {
	for _, x := range v {
		b = withNumber(b, uint32(x), coordBytes)
	}
	return b
}
