package sum

import (
	"bytes"
	"hash/crc32"
	"math"
	"slices"
	"testing"
)

// byWords is the sum as the chapter's words tell it, bit by bit, going on from a number whose bits aren't turned at last.
func byWords(n uint32, b []byte) uint32 {
	for _, x := range b {
		for i := range 8 {
			bit := uint32(x>>i) & 1
			off := n & 1
			n >>= 1
			if off != bit {
				n ^= 3988292384
			}
		}
	}
	return n
}

// want is the sum of bytes by the chapter's words.
func want(b []byte) uint32 { return ^byWords(math.MaxUint32, b) }

// some are bytes of many kinds, of the length that is asked for.
func some(size int) []byte {
	b := make([]byte, size)
	x := uint32(size) + 1
	for i := range b {
		x = x*1664525 + 1013904223
		b[i] = byte(x >> 24)
	}
	return b
}

// lists are lists of bytes, the edges among them.
func lists() [][]byte {
	l := [][]byte{nil, {}, {0}, {255}, {0, 0, 0, 0}, {255, 255, 255, 255}, []byte("123456789"), make([]byte, 1000), bytes.Repeat([]byte{255}, 1000)}
	for size := range 70 {
		l = append(l, some(size))
	}
	return append(l, some(4096), some(100000))
}

// sums are numbers that may be sums, the edges among them.
func sums() []uint32 {
	l := []uint32{0, 1, 2, 7, 255, 256, 65535, 65536, 0x01020304, 3421780262, 3988292384, 1<<31 - 1, 1 << 31, math.MaxUint32 - 1, math.MaxUint32}
	for i := range 32 {
		l = append(l, 1<<i, ^uint32(1<<i))
	}
	return l
}

// P2.1: the chapter's examples, and others that are known.
func TestOfExamples(t *testing.T) {
	for _, x := range []struct {
		b    string
		want uint32
	}{
		{"", 0}, {"123456789", 3421780262},
		{"\x00", 0xd202ef8d}, {"\xff", 0xff000000}, {"a", 0xe8b7be43}, {"abc", 0x352441c2},
		{"\x00\x00\x00\x00", 0x2144df1c}, {"\xff\xff\xff\xff", 0xffffffff},
		{"The quick brown fox jumps over the lazy dog", 0x414fa339},
	} {
		if got := Of([]byte(x.b)); got != x.want {
			t.Errorf("Of(%q): %d; want %d", x.b, got, x.want)
		}
	}
}

// P2.1: no bytes have the sum 0, be they nil or empty (R4).
func TestOfNoBytes(t *testing.T) {
	if Of(nil) != 0 || Of([]byte{}) != 0 || Of(make([]byte, 0, 9)) != 0 {
		t.Error("no bytes have another sum than 0")
	}
}

// P2.1: of one byte, all of them, and of two, all of them.
func TestOfOneAndTwoBytes(t *testing.T) {
	for x := range 256 {
		b := []byte{byte(x)}
		if Of(b) != want(b) {
			t.Errorf("Of(%d): %d; want %d", b, Of(b), want(b))
		}
		for y := range 256 {
			b := []byte{byte(x), byte(y)}
			if Of(b) != want(b) {
				t.Fatalf("Of(%d): %d; want %d", b, Of(b), want(b))
			}
		}
	}
}

// P2.1: longer ones, held against the chapter's words, and against the library.
func TestOfByItsWords(t *testing.T) {
	for _, b := range lists() {
		got := Of(b)
		if got != want(b) || got != crc32.ChecksumIEEE(b) {
			t.Errorf("Of %d bytes: %d; want %d", len(b), got, want(b))
		}
	}
}

// P2.1: where s is the sum of bytes, that of these and others behind them, wherever they are cut.
func TestThenGoesOn(t *testing.T) {
	for _, b := range lists() {
		if len(b) > 100 {
			continue
		}
		for cut := range len(b) + 1 {
			if got := Then(Of(b[:cut]), b[cut:]); got != Of(b) {
				t.Errorf("% x cut at %d: %d; want %d", b, cut, got, Of(b))
			}
		}
		one := uint32(0)
		for _, x := range b {
			one = Then(one, []byte{x})
		}
		if one != Of(b) {
			t.Errorf("% x byte by byte: %d; want %d", b, one, Of(b))
		}
	}
}

// P2.1: any number is taken for a sum; no bytes behind it leave it as it is.
func TestThenTakesAnySum(t *testing.T) {
	for _, s := range sums() {
		if Then(s, nil) != s || Then(s, []byte{}) != s {
			t.Errorf("Then(%d, no bytes): %d, %d", s, Then(s, nil), Then(s, []byte{}))
		}
		for _, b := range [][]byte{{0}, {255}, {0x80}, some(3), some(17)} {
			if got, want := Then(s, b), ^byWords(^s, b); got != want {
				t.Errorf("Then(%d, % x): %d; want %d", s, b, got, want)
			}
		}
	}
}

// P2.1: the four bytes, written out by hand.
func TestFourExamples(t *testing.T) {
	for _, x := range []struct {
		s    uint32
		want string
	}{
		{0, "\x00\x00\x00\x00"}, {1, "\x01\x00\x00\x00"}, {256, "\x00\x01\x00\x00"}, {65536, "\x00\x00\x01\x00"}, {1 << 24, "\x00\x00\x00\x01"},
		{0x01020304, "\x04\x03\x02\x01"}, {3421780262, "\x26\x39\xf4\xcb"}, {math.MaxUint32, "\xff\xff\xff\xff"}, {1 << 31, "\x00\x00\x00\x80"},
	} {
		if got := Four(x.s); string(got) != x.want {
			t.Errorf("Four(%d): % x; want % x", x.s, got, x.want)
		}
	}
}

// P2.1: the four bytes, the lowest one first, are the number again.
func TestFourIsTheNumber(t *testing.T) {
	for _, s := range sums() {
		four := Four(s)
		if len(four) != 4 {
			t.Fatalf("Four(%d): % x", s, four)
		}
		value := 0
		for i, x := range four {
			value += int(x) << (8 * i)
		}
		if value != int(s) {
			t.Errorf("Four(%d): % x is %d", s, four, value)
		}
	}
}

// P2.1: the four bytes of its sum are those of a list, and no others.
func TestIs(t *testing.T) {
	for _, b := range lists() {
		four := Four(want(b))
		if !Is(b, four) {
			t.Errorf("Is(%d bytes, % x): false", len(b), four)
		}
		if len(b) > 100 {
			continue
		}
		for i := range 4 {
			for x := range 256 {
				other := slices.Clone(four)
				other[i] = byte(x)
				if got := Is(b, other); got != (byte(x) == four[i]) {
					t.Errorf("Is(% x, % x): %v", b, other, got)
				}
			}
		}
	}
}

// P2.1: fewer bytes, or more, or those of the sum the other way round aren't the four.
func TestIsNotFour(t *testing.T) {
	for _, b := range [][]byte{nil, {0}, []byte("123456789"), {255, 255, 255, 255}} {
		four := Four(want(b))
		for size := range 4 {
			if Is(b, four[:size]) || Is(b, four[size+1:]) {
				t.Errorf("Is(% x, %d of % x): true", b, size, four)
			}
		}
		if Is(b, nil) || Is(b, append(slices.Clone(four), 0)) || Is(b, append([]byte{0}, four...)) || Is(b, append(slices.Clone(four), four...)) {
			t.Errorf("Is(% x, others than four): true", b)
		}
	}
	if Is([]byte("123456789"), []byte{0xcb, 0xf4, 0x39, 0x26}) {
		t.Error("the highest byte first: true")
	}
	if Is(nil, nil) || Is(nil, []byte{0, 0, 0}) || !Is(nil, []byte{0, 0, 0, 0}) {
		t.Error("the sum of no bytes")
	}
}

// P2.2: bits that are turned within 32 side by side are seen: all ends of such a stretch, some fillings of it, at all places.
func TestTurnedBits(t *testing.T) {
	for _, size := range []int{1, 2, 4, 5, 8, 20} {
		b := some(size)
		had := Of(b)
		for at := range 8 * size {
			for wide := 1; wide <= 32 && at+wide <= 8*size; wide++ {
				for _, inner := range []uint64{0, math.MaxUint64, 0x5555555555555555, 0x123456789abcdef, uint64(at*wide) * 0x9e3779b97f4a7c15} {
					turns := (inner & (1<<wide - 1)) | 1 | 1<<(wide-1)
					if Of(turn(b, at, turns)) == had {
						t.Fatalf("% x: bits %b turned at %d: the same sum", b, turns, at)
					}
				}
			}
		}
	}
}

// turn is a copy of bytes in which bits are turned, from bit at on, where turns has a bit 1.
func turn(b []byte, at int, turns uint64) []byte {
	b = slices.Clone(b)
	for i := 0; turns>>i != 0; i++ {
		if turns>>i&1 == 1 {
			b[(at+i)/8] ^= 1 << ((at + i) % 8)
		}
	}
	return b
}

// P2.2: one byte in the place of another one is seen, each byte, at each place.
func TestOneByteInAnothersPlace(t *testing.T) {
	for _, size := range []int{1, 2, 9, 64} {
		b := some(size)
		four := Four(Of(b))
		for i := range b {
			for x := range 256 {
				other := slices.Clone(b)
				other[i] = byte(x)
				same := byte(x) == b[i]
				if (Of(other) == Of(b)) != same || Is(other, four) != same {
					t.Fatalf("% x: byte %d is %d: the sum is %d", b, i, x, Of(other))
				}
			}
		}
	}
}

// R5: what is handed in isn't changed, what lies behind it neither; what is answered is memory of its own.
func TestMemory(t *testing.T) {
	whole := some(40)
	kept := slices.Clone(whole)
	b, four := whole[:30], whole[30:34]
	Of(b)
	Then(7, b)
	Is(b, four)
	if !bytes.Equal(whole, kept) {
		t.Error("what was handed in is changed")
	}
	one := Four(0x01020304)
	clear(one)
	_ = append(one[:0], 9, 9, 9, 9)
	if got := Four(0x01020304); string(got) != "\x04\x03\x02\x01" {
		t.Errorf("Four behind a change of what it answered: % x", got)
	}
}

// R6: asked again, with others between, the answer is the same.
func TestAgain(t *testing.T) {
	first := make([]uint32, 0, 100)
	for _, b := range lists() {
		first = append(first, Of(b))
	}
	for i, b := range lists() {
		if Of(b) != first[i] {
			t.Errorf("list %d: %d; it was %d", i, Of(b), first[i])
		}
	}
}

// FuzzSum holds sums of bytes, and of bytes behind bytes, against the chapter's words.
func FuzzSum(f *testing.F) {
	f.Add([]byte(nil), []byte("123456789"), uint32(0))
	f.Add([]byte("1234"), []byte("56789"), uint32(7))
	f.Fuzz(func(t *testing.T, a, b []byte, s uint32) {
		both := slices.Concat(a, b)
		if Of(both) != want(both) || Then(Of(a), b) != want(both) || Then(s, a) != ^byWords(^s, a) {
			t.Errorf("% x, % x, %d", a, b, s)
		}
		if !Is(both, Four(want(both))) || Is(both, Four(s)) != (s == want(both)) {
			t.Errorf("four bytes of % x", both)
		}
	})
}
