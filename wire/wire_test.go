package wire

import (
	"bytes"
	"encoding/binary"
	"hash/crc32"
	"math"
	"slices"
	"strings"
	"testing"

	"holt/api"
	"holt/op"
)

const (
	maxN    = 16777215
	maxNode = 4294967295
)

// one is an operation, and form is how it is written.
var one = api.Op{At: api.Stamp{N: 5, R: 7}, Node: 1287, Name: "a"}

const form = "\x05\x07\x87\x0a\x00\x01a"

// widest is an operation that has the most bytes.
var widest = api.Op{At: api.Stamp{N: maxN, R: 255}, Node: maxNode, To: maxNode, Name: strings.Repeat("n", 20)}

// number writes a number as chapter 1's words say it.
func number(n int) []byte { return binary.AppendUvarint(nil, uint64(n)) }

// put writes any operation as chapter 5's words say it, be it right or not.
func put(o api.Op) []byte {
	return slices.Concat(number(o.At.N), number(o.At.R), number(o.Node), number(o.To), number(len(o.Name)), []byte(o.Name))
}

// summed is bytes, and the four bytes of their sum.
func summed(body []byte) []byte {
	return binary.LittleEndian.AppendUint32(bytes.Clone(body), crc32.ChecksumIEEE(body))
}

// counted is bytes, with their number ahead of them.
func counted(b []byte) []byte { return append(number(len(b)), b...) }

// framed is what a batch would be if its sum were that of body.
func framed(body string) []byte { return counted(summed([]byte(body))) }

// body is what is summed of a batch of any operations, that tells any number of them.
func body(count int, l []api.Op) string {
	b := append([]byte{1}, number(count)...)
	for _, o := range l {
		b = append(b, put(o)...)
	}
	return string(b)
}

// batch writes one as the chapter's words say it.
func batch(l []api.Op) []byte { return framed(body(len(l), l)) }

// fits tells whether operations may be in a batch.
func fits(l []api.Op) bool {
	return len(l) <= 64 && !slices.ContainsFunc(l, func(o api.Op) bool { return !op.Right(o) })
}

// loose is the operations that b would have if it were a batch: nothing is held against a bound, or a form.
func loose(b []byte) (l []api.Op) {
	next := func() int {
		n, used := binary.Uvarint(b)
		if used <= 0 {
			b = nil
			return 0
		}
		b = b[used:]
		return int(n)
	}
	next()
	next()
	for range min(next(), 65) {
		o := api.Op{At: api.Stamp{N: next(), R: next()}, Node: next(), To: next()}
		size := min(max(next(), 0), len(b))
		o.Name, b = string(b[:size]), b[size:]
		l = append(l, o)
	}
	return l
}

// decoded is the operations of which b is the batch, if there are such.
func decoded(b []byte) ([]api.Op, api.Errno) {
	l := loose(b)
	if !fits(l) || !bytes.Equal(batch(l), b) {
		return nil, api.ErrForm
	}
	return l, api.OK
}

// cut is what Cut answers, as the chapter's words, and chapter 1's, say it.
func cut(b []byte) (first, rest []byte, e api.Errno) {
	last := slices.IndexFunc(b, func(x byte) bool { return x < 128 })
	switch {
	case last < 0 && len(b) < 5:
		return nil, nil, api.ErrShort
	case last < 0, last > 4, last > 0 && b[last] == 0:
		return nil, nil, api.ErrForm
	}
	size := 0
	for i, x := range b[:last+1] {
		size += int(x%128) << (7 * i)
	}
	switch {
	case size > 65535:
		return nil, nil, api.ErrForm
	case size > len(b)-last-1:
		return nil, nil, api.ErrShort
	}
	return b[:last+1+size], b[last+1+size:], api.OK
}

// checkEncode holds Encode against the words, and Decode and Cut of what was encoded.
func checkEncode(t *testing.T, l []api.Op) {
	t.Helper()
	b, e := Encode(l)
	if !fits(l) {
		if e != api.ErrArg || len(b) != 0 {
			t.Errorf("Encode(%v): % x, %v", l, b, e)
		}
		return
	}
	if e != api.OK || !bytes.Equal(b, batch(l)) {
		t.Errorf("Encode(%v): % x, %v; want % x", l, b, e, batch(l))
	}
	checkBack(t, b, l)
}

// checkBack holds Decode and Cut of a batch against its operations.
func checkBack(t *testing.T, b []byte, l []api.Op) {
	t.Helper()
	if back, e := Decode(b); e != api.OK || !slices.Equal(back, l) {
		t.Errorf("Decode(% x): %v, %v; want %v", b, back, e, l)
	}
	if first, rest, e := Cut(b); e != api.OK || !bytes.Equal(first, b) || len(rest) != 0 {
		t.Errorf("Cut(% x): % x, % x, %v", b, first, rest, e)
	}
}

// checkDecode holds Decode against the words; what was decoded is encoded as what it was.
func checkDecode(t *testing.T, b []byte) {
	t.Helper()
	want, wantE := decoded(b)
	l, e := Decode(b)
	if e != wantE || !slices.Equal(l, want) {
		t.Errorf("Decode(% x): %v, %v; want %v, %v", b, l, e, want, wantE)
	}
	if e != api.OK {
		return
	}
	if again, e := Encode(l); e != api.OK || !bytes.Equal(again, b) {
		t.Errorf("% x was decoded, and encoded as % x, %v", b, again, e)
	}
}

// refused tells that Decode answers none, and ErrForm.
func refused(t *testing.T, why string, b []byte) {
	t.Helper()
	if l, e := Decode(b); e != api.ErrForm || len(l) != 0 {
		t.Errorf("%s: Decode(% x): %v, %v", why, b, l, e)
	}
	checkDecode(t, b)
}

// checkCut holds Cut against the words.
func checkCut(t *testing.T, b []byte) {
	t.Helper()
	wantFirst, wantRest, wantE := cut(b)
	first, rest, e := Cut(b)
	if e != wantE || !bytes.Equal(first, wantFirst) || !bytes.Equal(rest, wantRest) {
		t.Errorf("Cut of %d bytes, % x: %d, %d, %v; want %d, %d, %v", len(b), b[:min(len(b), 8)], len(first), len(rest), e, len(wantFirst), len(wantRest), wantE)
	}
}

// some is that many right operations, of many lengths.
func some(count int) []api.Op {
	var l []api.Op
	for i := range count {
		l = append(l, api.Op{
			At:   api.Stamp{N: 1 + i*i*i*i, R: i * 4 % 256},
			Node: 256 + i*67108863%(maxNode-256),
			To:   []int{0, 1, 256, 1287, 1 << 28, maxNode}[i%6],
			Name: []string{"a", "bc", "\u00e9", "\U0001f333", " ", "a.b", strings.Repeat("n", 20)}[i%7],
		})
	}
	return l
}

// sized is operations whose batch tells that just so many bytes follow, which must be 13 or more: an operation like one has 7 to 26 bytes.
func sized(follow int) []api.Op {
	var l []api.Op
	for left := follow - 6; left > 0; {
		size := left
		if left > 26 {
			size = min(26, left-7)
		}
		o := one
		o.Name = strings.Repeat("n", size-6)
		l = append(l, o)
		left -= size
	}
	return l
}

// lists are lists of right operations, up to as many as a batch may have, in any order, twice too.
func lists() [][]api.Op {
	l := [][]api.Op{nil, {}, {one}, {widest}, {one, one}, {widest, one}, {one, widest}, {one, widest, one, one}, some(2), some(3), some(20), some(63), some(64), slices.Repeat([]api.Op{one}, 64), slices.Repeat([]api.Op{widest}, 64), sized(126), sized(127), sized(128), sized(129)}
	up := some(30)
	slices.SortFunc(up, op.Cmp)
	down := slices.Clone(up)
	slices.Reverse(down)
	return append(l, up, down)
}

// wrongs are operations that aren't right, each by one field, or by all.
func wrongs() []api.Op {
	l := []api.Op{{}, {At: api.Stamp{N: -1, R: -1}, Node: -1, To: -1, Name: "/"}}
	with := func(change func(o *api.Op)) {
		o := one
		change(&o)
		l = append(l, o)
	}
	for _, n := range []int{math.MinInt, -1, 0, maxN + 1, 1 << 32, math.MaxInt} {
		with(func(o *api.Op) { o.At.N = n })
	}
	for _, r := range []int{math.MinInt, -1, 256, 1 << 32, math.MaxInt} {
		with(func(o *api.Op) { o.At.R = r })
	}
	for _, n := range []int{math.MinInt, -256, -1, 0, 1, 2, 255, maxNode + 1, 1<<32 + 256, math.MaxInt} {
		with(func(o *api.Op) { o.Node = n })
	}
	for _, n := range []int{math.MinInt, -256, -1, 2, 255, maxNode + 1, 1 << 32, math.MaxInt} {
		with(func(o *api.Op) { o.To = n })
	}
	for _, s := range []string{"", "/", "a/b", "\x00", "\x1f", "\x7f", "\xff", "a\xc3", strings.Repeat("n", 21), strings.Repeat("n", 5000)} {
		with(func(o *api.Op) { o.Name = s })
	}
	return l
}

func TestExample(t *testing.T) {
	want := append([]byte{6, 1, 0}, binary.LittleEndian.AppendUint32(nil, crc32.ChecksumIEEE([]byte{1, 0}))...)
	for _, l := range [][]api.Op{nil, {}} {
		if b, e := Encode(l); e != api.OK || !bytes.Equal(b, want) {
			t.Errorf("% x, %v; want % x", b, e, want)
		}
	}
	if l, e := Decode(want); e != api.OK || len(l) != 0 {
		t.Error(l, e)
	}
	if Version != 1 {
		t.Error(Version)
	}
}

// P6.1: bytes that are written out by hand, sums too.
func TestEncodeByHand(t *testing.T) {
	two := api.Op{At: api.Stamp{N: 6, R: 7}, Node: 1287, To: 1, Name: "bc"}
	for _, x := range []struct {
		l    []api.Op
		want string
	}{
		{nil, "\x06\x01\x00\xbe\x23\xc2\x58"},
		{[]api.Op{one}, "\x0d\x01\x01" + form + "\x05\xf3\x30\x3d"},
		{[]api.Op{two, one, one}, "\x1c\x01\x03\x06\x07\x87\x0a\x01\x02bc" + form + form + "\xbf\xe7\x89\x6a"},
	} {
		if b, e := Encode(x.l); e != api.OK || string(b) != x.want {
			t.Errorf("Encode(%v): % x, %v; want % x", x.l, b, e, x.want)
		}
		checkBack(t, []byte(x.want), x.l)
	}
}

// P6.1, P6.4: of no operations, of one, and of as many as each number up to 64; in any order, and twice; there and back.
func TestEncode(t *testing.T) {
	for _, l := range lists() {
		if !fits(l) {
			t.Fatal("the test's own operations aren't right", l)
		}
		checkEncode(t, l)
	}
	for count := range 65 {
		checkEncode(t, some(count))
	}
}

// P6.1: how many bytes follow is told in one byte up to 127, and in two from 128 on.
func TestEncodeTellsHowManyFollow(t *testing.T) {
	for follow := 13; follow < 400; follow++ {
		l := sized(follow)
		b, e := Encode(l)
		ahead := 1
		if follow >= 128 {
			ahead = 2
		}
		if e != api.OK || len(b) != ahead+follow || !bytes.HasPrefix(b, number(follow)) {
			t.Errorf("%d: %d bytes, %v", follow, len(b), e)
		}
		checkEncode(t, l)
	}
	if b, e := Encode(slices.Repeat([]api.Op{widest}, 64)); e != api.OK || len(b) != 2+6+64*37 || b[0] != 0xc6 || b[1] != 0x12 {
		t.Error(len(b), e)
	}
}

// P6.1: more operations than 64 have no batch, right or not.
func TestEncodeOfTooMany(t *testing.T) {
	for _, l := range [][]api.Op{slices.Repeat([]api.Op{one}, 65), slices.Repeat([]api.Op{widest}, 65), slices.Repeat([]api.Op{one}, 66), slices.Repeat([]api.Op{one}, 128), slices.Repeat([]api.Op{one}, 10000), make([]api.Op, 65), append(some(64), api.Op{})} {
		if b, e := Encode(l); e != api.ErrArg || len(b) != 0 {
			t.Errorf("%d operations: % x, %v", len(l), b, e)
		}
	}
}

// P6.1: one operation that isn't right, of each kind, alone, and at each place among others.
func TestEncodeOfOneThatIsNotRight(t *testing.T) {
	for _, wrong := range wrongs() {
		for _, count := range []int{1, 2, 3, 64} {
			for at := range count {
				l := some(count)
				l[at] = wrong
				if b, e := Encode(l); e != api.ErrArg || len(b) != 0 {
					t.Errorf("%v at %d of %d: % x, %v", wrong, at, count, b, e)
				}
			}
		}
	}
	if b, e := Encode(wrongs()); e != api.ErrArg || len(b) != 0 {
		t.Error(b, e)
	}
}

// P6.2: bytes that are cut off at any place, at their beginning too.
func TestDecodeOfCutBytes(t *testing.T) {
	for _, l := range lists() {
		b := batch(l)
		for n := range b {
			refused(t, "cut off", b[:n])
		}
		for n := 1; n <= len(b) && n < 40; n++ {
			refused(t, "without its beginning", b[n:])
		}
	}
	refused(t, "nil", nil)
	refused(t, "empty", []byte{})
}

// P6.2: bodies that are cut off at any place, of which the number that follows, and the sum, are right.
func TestDecodeOfCutBodies(t *testing.T) {
	for _, l := range [][]api.Op{nil, {one}, {one, widest}, {widest, one, one}, some(20)} {
		whole := body(len(l), l)
		for n := range len(whole) {
			refused(t, "the body is cut off", framed(whole[:n]))
		}
		for n := range len(whole) + 4 {
			refused(t, "the sum is cut off", counted(summed([]byte(whole))[:n]))
		}
	}
}

// P6.2: bytes behind a batch, uncounted, counted, and counted and summed.
func TestDecodeOfBytesBehind(t *testing.T) {
	for _, l := range lists() {
		for _, more := range []string{"\x00", "\x01", "\xff", "\x00\x00\x00\x00", form, string(batch(nil)), string(batch(l))} {
			refused(t, "bytes behind", append(batch(l), more...))
			refused(t, "bytes behind the sum", counted(append(summed([]byte(body(len(l), l))), more...)))
			refused(t, "bytes behind the operations", framed(body(len(l), l)+more))
			refused(t, "bytes ahead", append([]byte(more), batch(l)...))
		}
	}
}

// P6.2: each byte of a batch put as each other one.
func TestDecodeOfTurnedBytes(t *testing.T) {
	for _, l := range [][]api.Op{nil, {one}, {widest, one}, some(7), sized(127), sized(128)} {
		b := batch(l)
		for at := range b {
			for x := 1; x < 256; x++ {
				turned := bytes.Clone(b)
				turned[at] ^= byte(x)
				refused(t, "a byte was turned", turned)
			}
		}
	}
	b := batch(some(64))
	for at := range 8 * len(b) {
		turned := bytes.Clone(b)
		turned[at/8] ^= 1 << (at % 8)
		refused(t, "a bit was turned", turned)
	}
}

// P6.2: each byte of what is summed put as each other one, left out, or doubled, and summed again: what is right is decoded.
func TestDecodeOfTurnedBodies(t *testing.T) {
	rights := 0
	for _, l := range [][]api.Op{nil, {one}, {one, one}, {widest}, some(5)} {
		whole := []byte(body(len(l), l))
		for at := range whole {
			for x := range 256 {
				turned := bytes.Clone(whole)
				turned[at] = byte(x)
				checkDecode(t, framed(string(turned)))
				if _, e := decoded(framed(string(turned))); e == api.OK {
					rights++
				}
			}
			checkDecode(t, framed(string(slices.Delete(bytes.Clone(whole), at, at+1))))
			checkDecode(t, framed(string(slices.Insert(bytes.Clone(whole), at, whole[at]))))
		}
	}
	if rights < 1000 {
		t.Error("too few of them are batches:", rights)
	}
}

// P6.2: another version, as a byte, and as a number of more bytes.
func TestDecodeOfAnotherVersion(t *testing.T) {
	for _, l := range lists() {
		rest := body(len(l), l)[1:]
		for x := range 256 {
			if x != 1 {
				refused(t, "another version", framed(string([]byte{byte(x)})+rest))
			}
		}
		for _, v := range []string{"", "\x81\x00", "\x80\x01", "\x81\x80\x00", "\x81\x80\x80\x80\x00", "\x81\x80\x80\x80\x80\x00", "\x01\x01"} {
			refused(t, "another version's form", framed(v+rest))
		}
	}
}

// P6.2: a first number that isn't in its one form, is past what follows, or below it.
func TestDecodeOfAnotherFirstNumber(t *testing.T) {
	for _, l := range lists() {
		b := summed([]byte(body(len(l), l)))
		form := number(len(b))
		long := append(bytes.Clone(form[:len(form)-1]), form[len(form)-1]+128)
		for range 6 {
			refused(t, "a last byte of 0", slices.Concat(long, []byte{0}, b))
			long = append(long, 128)
		}
		for _, n := range []int{0, 1, 4, 5, len(b) - 1, len(b) + 1, len(b) + 4, len(b) + 128, len(b) + 65536, len(b) + 1<<32, len(b) + 1<<35, 65535, 65536, maxNode, maxNode + 1, math.MaxInt} {
			refused(t, "another first number", append(number(n), b...))
		}
		refused(t, "no first number", b)
	}
}

// P6.2: a number of operations that doesn't fit, is past its bound, or isn't in its one form.
func TestDecodeOfAnotherCount(t *testing.T) {
	for _, l := range lists() {
		for _, n := range []int{0, 1, 2, len(l) - 1, len(l) + 1, 63, 64, 65, 66, 127, 128, len(l) + 128, len(l) + 256, 65535, maxNode, maxNode + 1, len(l) + 1<<32, math.MaxInt, math.MinInt} {
			if n != len(l) {
				refused(t, "another count", framed(body(n, l)))
			}
		}
		tail := body(len(l), l)[2:]
		for _, zeros := range []string{"\x00", "\x80\x00", "\x80\x80\x00", "\x80\x80\x80\x00", "\x80\x80\x80\x80\x00"} {
			refused(t, "a count whose last byte is 0", framed("\x01"+string([]byte{byte(len(l) + 128)})+zeros+tail))
		}
		refused(t, "no count", framed("\x01"+tail))
	}
	for _, count := range []int{65, 66, 127, 128, 200} {
		for _, o := range []api.Op{one, widest} {
			refused(t, "too many", batch(slices.Repeat([]api.Op{o}, count)))
		}
	}
}

// P6.2: operations that aren't right, or whose numbers are past their bounds, at each place.
func TestDecodeOfOneThatIsNotRight(t *testing.T) {
	for _, wrong := range wrongs() {
		for _, count := range []int{1, 2, 3, 64} {
			for at := range count {
				l := some(count)
				l[at] = wrong
				refused(t, "one isn't right", batch(l))
			}
		}
	}
}

// P6.2: numbers of operations that aren't in their one form.
func TestDecodeOfNumbersInAnotherForm(t *testing.T) {
	for _, x := range []string{
		"\x85\x00\x07\x87\x0a\x00\x01a",                 // N
		"\x05\x87\x00\x87\x0a\x00\x01a",                 // R
		"\x05\x07\x87\x8a\x00\x00\x01a",                 // Node
		"\x05\x07\x87\x0a\x80\x00\x01a",                 // To
		"\x05\x07\x87\x0a\x00\x81\x00a",                 // the name's number
		"\x05\x07\x87\x0a\x80\x80\x80\x80\x00\x01a",     // To, of five bytes
		"\x05\x07\x87\x0a\x80\x80\x80\x80\x80\x00\x01a", // To, of six bytes
	} {
		refused(t, "alone", framed("\x01\x01"+x))
		refused(t, "ahead of one", framed("\x01\x02"+x+form))
		refused(t, "behind one", framed("\x01\x02"+form+x))
	}
}

// P6.2: a sum that is another one, that of other bytes, or isn't there.
func TestDecodeOfAnotherSum(t *testing.T) {
	for _, l := range lists() {
		b := []byte(body(len(l), l))
		follow := len(b) + 4
		s := crc32.ChecksumIEEE(b)
		for _, other := range []uint32{0, 1, math.MaxUint32, s + 1, s - 1, ^s, s ^ 1<<31, s<<8 | s>>24, crc32.ChecksumIEEE(nil), crc32.ChecksumIEEE(append(number(follow), b...)), crc32.ChecksumIEEE(b[1:]), crc32.Update(s, crc32.IEEETable, []byte{0})} {
			refused(t, "another sum", counted(binary.LittleEndian.AppendUint32(bytes.Clone(b), other)))
		}
		refused(t, "the highest byte first", counted(binary.BigEndian.AppendUint32(bytes.Clone(b), s)))
		refused(t, "no sum", counted(b))
		refused(t, "two sums", counted(summed(summed(b))))
	}
}

// P6.2, R1: all short bytes out of those at the edges, as they are, and summed.
func TestDecodeAndCutOfAll(t *testing.T) {
	edges := []byte{0, 1, 2, 3, 4, 6, 64, 65, 127, 128, 129, 255}
	l := [][]byte{nil}
	for from := 0; from < len(l); from++ {
		b := l[from]
		checkDecode(t, b)
		checkDecode(t, framed(string(b)))
		checkCut(t, b)
		if len(b) == 4 {
			continue
		}
		for _, x := range edges {
			l = append(l, append(slices.Clip(b), x))
		}
	}
}

// P6.3: what is written out by hand.
func TestCut(t *testing.T) {
	for _, x := range []struct {
		b, first, rest string
		e              api.Errno
	}{
		{"\x00", "\x00", "", api.OK},
		{"\x00\x00", "\x00", "\x00", api.OK},
		{"\x02ab", "\x02ab", "", api.OK},
		{"\x02abc", "\x02ab", "c", api.OK},
		{"\x02ab\x80\x00", "\x02ab", "\x80\x00", api.OK},

		{"", "", "", api.ErrShort},
		{"\x01", "", "", api.ErrShort},
		{"\x03ab", "", "", api.ErrShort},
		{"\x80", "", "", api.ErrShort},
		{"\xff\xff", "", "", api.ErrShort},
		{"\xff\xff\x03", "", "", api.ErrShort},
		{"\xff\xff\x03ab", "", "", api.ErrShort},
		{"\xff\xff\xff", "", "", api.ErrShort},
		{"\x80\x80\x80\x80", "", "", api.ErrShort},

		{"\x80\x00", "", "", api.ErrForm},
		{"\x82\x00ab", "", "", api.ErrForm},
		{"\x82\x80\x00ab", "", "", api.ErrForm},
		{"\x80\x80\x04", "", "", api.ErrForm},
		{"\x80\x80\x04ab", "", "", api.ErrForm},
		{"\xff\xff\xff\xff\x0f", "", "", api.ErrForm},
		{"\xff\xff\xff\xff\x10", "", "", api.ErrForm},
		{"\x80\x80\x80\x80\x80", "", "", api.ErrForm},
		{"\x80\x80\x80\x80\x80\x00ab", "", "", api.ErrForm},
	} {
		first, rest, e := Cut([]byte(x.b))
		if string(first) != x.first || string(rest) != x.rest || e != x.e {
			t.Errorf("Cut(% x): % x, % x, %v", x.b, first, rest, e)
		}
		checkCut(t, []byte(x.b))
	}
	for _, b := range [][]byte{nil, {}} {
		if first, rest, e := Cut(b); len(first) != 0 || len(rest) != 0 || e != api.ErrShort {
			t.Error(first, rest, e)
		}
	}
}

// P6.3: first numbers at their edges, with one byte too few behind them, with as many, and with more.
func TestCutAtTheEdges(t *testing.T) {
	zeros := make([]byte, 1<<17)
	for _, n := range []int{0, 1, 2, 127, 128, 129, 2374, 16383, 16384, 65534, 65535, 65536, 65537, 1 << 17, 1 << 20} {
		for _, have := range []int{0, n - 1, n, n + 1, n + 1000, 1 << 17} {
			if have < 0 || have > len(zeros) {
				continue
			}
			b := append(number(n), zeros[:have]...)
			want := api.OK
			switch {
			case n > 65535:
				want = api.ErrForm
			case have < n:
				want = api.ErrShort
			}
			if first, rest, e := Cut(b); e != want || e == api.OK && (len(first)+len(rest) != len(b) || len(rest) != have-n) {
				t.Errorf("%d of %d: %d, %d, %v", have, n, len(first), len(rest), e)
			}
			checkCut(t, b)
		}
	}
}

// P6.3: whether it is a batch isn't asked.
func TestCutOfNoBatch(t *testing.T) {
	b := batch(some(9))
	for _, at := range []int{2, 3, 9, len(b) - 5, len(b) - 1} {
		turned := bytes.Clone(b)
		turned[at] ^= 0x55
		first, rest, e := Cut(append(turned, "\x80\x80z"...))
		if e != api.OK || !bytes.Equal(first, turned) || string(rest) != "\x80\x80z" {
			t.Errorf("% x, % x, %v", first, rest, e)
		}
		refused(t, "turned", first)
	}
}

// P6.3, P6.4: batches that stand one behind the other are cut apart; cut off at any place, all but the last one are.
func TestBatchesAreCutApart(t *testing.T) {
	var all []byte
	for _, l := range lists() {
		all = append(all, batch(l)...)
	}
	left := all
	for _, l := range lists() {
		first, rest, e := Cut(left)
		if e != api.OK {
			t.Fatal(e)
		}
		checkBack(t, first, l)
		left = rest
	}
	if _, _, e := Cut(left); len(left) != 0 || e != api.ErrShort {
		t.Error(len(left), e)
	}

	a, b := batch(some(3)), batch([]api.Op{widest, one, widest, widest})
	both := slices.Concat(a, b)
	for n := range len(both) + 1 {
		first, rest, e := Cut(both[:n])
		switch {
		case n < len(a):
			if e != api.ErrShort || len(first)+len(rest) != 0 {
				t.Error(n, first, rest, e)
			}
		case e != api.OK || !bytes.Equal(first, a) || !bytes.Equal(rest, b[:n-len(a)]):
			t.Error(n, first, rest, e)
		case n < len(both):
			if _, _, e := Cut(rest); e != api.ErrShort {
				t.Error(n, e)
			}
		}
		checkCut(t, both[:n])
	}
}

// P6.4: operations in order have one form: lists that aren't the same have other bytes, and none's bytes begin another's.
func TestOneForm(t *testing.T) {
	two := one
	two.Name = "b"
	var l []string
	for _, x := range [][]api.Op{nil, {one}, {two}, {one, one}, {one, two}, {two, one}, {two, two}, {one, one, two}, {one, two, one}, {two, one, one}, some(64), some(63), sized(127), sized(128)} {
		b, e := Encode(x)
		if e != api.OK {
			t.Fatal(e)
		}
		if again, _ := Encode(slices.Clone(x)); !bytes.Equal(again, b) {
			t.Errorf("%v has two forms", x)
		}
		l = append(l, string(b))
	}
	slices.Sort(l)
	for i := 1; i < len(l); i++ {
		if strings.HasPrefix(l[i], l[i-1]) {
			t.Errorf("% x and % x", l[i-1], l[i])
		}
	}
}

// spare is a copy of b, with bytes behind it that it could grow into.
func spare(b []byte) (short, whole []byte) {
	whole = append(bytes.Clone(b), "spare bytes, that are none of it"...)
	return whole[:len(b)], whole
}

// R5: Encode changes no operation, and its bytes are its own.
func TestEncodeMemory(t *testing.T) {
	whole := some(20)
	l := whole[:10]
	want := batch(some(10))
	b, _ := Encode(l)
	again, _ := Encode(l)
	if !slices.Equal(whole, some(20)) {
		t.Error("the operations were changed")
	}
	clear(b[:cap(b)])
	if !bytes.Equal(again, want) {
		t.Error("two batches share memory")
	}
	clear(whole)
	if !bytes.Equal(again, want) {
		t.Error("a batch hangs on the operations behind the call")
	}
	if none, _ := Encode(nil); !bytes.Equal(none, batch(nil)) {
		t.Errorf("% x", none)
	}
}

// R5: Decode changes no byte, and its operations are its own.
func TestDecodeMemory(t *testing.T) {
	b, whole := spare(batch(some(10)))
	before := bytes.Clone(whole)
	l, _ := Decode(b)
	again, _ := Decode(b)
	if !bytes.Equal(whole, before) {
		t.Error("the bytes were changed")
	}
	clear(whole)
	if !slices.Equal(l, some(10)) {
		t.Error("operations hang on the bytes behind the call")
	}
	clear(l[:cap(l)])
	if !slices.Equal(again, some(10)) {
		t.Error("two answers share memory")
	}
}

// R5: Cut changes no byte; what it answers is memory of its own, each of both.
func TestCutMemory(t *testing.T) {
	for _, behind := range []string{"", "rest", string(batch(some(3)))} {
		a := batch(some(5))
		b, whole := spare(append(bytes.Clone(a), behind...))
		before := bytes.Clone(whole)
		first, rest, _ := Cut(b)
		clear(first[:cap(first)])
		if string(rest) != behind || !bytes.Equal(whole, before) {
			t.Error("what is cut off shares memory")
		}
		clear(rest[:cap(rest)])
		if !bytes.Equal(whole, before) {
			t.Error("what is behind shares memory")
		}
		first, rest, _ = Cut(b)
		clear(whole)
		if !bytes.Equal(first, a) || string(rest) != behind {
			t.Error("an answer hangs on the bytes behind the call")
		}
		_ = append(first, "grown"...)
		_ = append(rest, "grown"...)
		if string(rest) != behind || !bytes.Equal(whole, make([]byte, len(whole))) {
			t.Error("an answer grows into others' memory")
		}
	}
}

// R5: what is wrong isn't changed either.
func TestMemoryBesideErrors(t *testing.T) {
	l := append(some(5), api.Op{Name: "wrong"})
	Encode(l)
	if !slices.Equal(l, append(some(5), api.Op{Name: "wrong"})) {
		t.Error("the operations were changed")
	}
	for _, bad := range [][]byte{batch(some(5))[:20], append(batch(some(5)), 0), framed("\x01\x02" + form), []byte("\x80\x00ab"), []byte("\x80\x80\x04")} {
		b, whole := spare(bad)
		before := bytes.Clone(whole)
		Decode(b)
		Cut(b)
		if !bytes.Equal(whole, before) {
			t.Errorf("% x was changed", bad)
		}
	}
}

// R6: an answer doesn't hang on what was asked ahead, wrong or not.
func TestAgain(t *testing.T) {
	for range 2 {
		for _, l := range lists() {
			checkEncode(t, l)
			checkEncode(t, append(slices.Clone(l), api.Op{}))
			checkDecode(t, batch(l)[1:])
			checkCut(t, batch(l)[:2])
		}
	}
}

// What is panicked with is told as the error that it is; anything else isn't hidden.
func TestCaught(t *testing.T) {
	if caught(nil) != api.OK || caught(api.ErrArg) != api.ErrArg || caught(api.ErrShort) != api.ErrShort {
		t.Error("another error")
	}
	defer func() {
		if recover() == nil {
			t.Error("a fault of the program was hidden")
		}
	}()
	caught("a fault")
}

// FuzzBytes: whatever is read, nothing panics (R1), as it is, and summed.
func FuzzBytes(f *testing.F) {
	f.Add([]byte(nil))
	f.Add([]byte("\x01\x01" + form))
	f.Add(batch([]api.Op{one, widest}))
	f.Add([]byte("\x80\x80\x04"))
	f.Fuzz(func(t *testing.T, b []byte) {
		checkDecode(t, b)
		checkDecode(t, framed(string(b)))
		checkDecode(t, framed("\x01"+string(b)))
		checkCut(t, b)
		checkCut(t, append(counted(b), b...))
	})
}

// FuzzOps: any operations, right or not, in any number.
func FuzzOps(f *testing.F) {
	f.Add(5, 7, 1287, 0, "a", 3, 0)
	f.Add(maxN, 255, maxNode, maxNode, "\u00e9", 64, 63)
	f.Add(0, -1, math.MinInt, math.MaxInt, "\xff", 65, 9)
	f.Fuzz(func(t *testing.T, n, r, node, to int, s string, count, at int) {
		o := api.Op{At: api.Stamp{N: n, R: r}, Node: node, To: to, Name: s}
		l := some(int(uint(count) % 67))
		if len(l) > 0 {
			l[int(uint(at)%uint(len(l)))] = o
		}
		checkEncode(t, l)
		checkDecode(t, batch(l))
		checkEncode(t, []api.Op{o, one, o})
	})
}
