package pack

import (
	"bytes"
	"math"
	"slices"
	"strings"
	"testing"

	"holt/api"
)

// numbers are the edges of each length of a form, and those around them.
func numbers() []int {
	l := []int{0, 1, 2, 42, 300, 4095, 4096, 4097, 1000000, Most - 1, Most}
	for _, bit := range []int{7, 14, 21, 28, 31} {
		l = append(l, 1<<bit-2, 1<<bit-1, 1<<bit, 1<<bit+1)
	}
	return l
}

// wrongNumbers have no form.
func wrongNumbers() []int {
	return []int{-1, -128, math.MinInt, math.MinInt32, Most + 1, Most + 2, 1 << 35, 1 << 62, math.MaxInt}
}

// told holds a reader against what it should be.
func told(t *testing.T, r *Reader, left int, err api.Errno) {
	t.Helper()
	if r.Left() != left || r.Err() != err {
		t.Errorf("left %d, err %d; want %d, %d", r.Left(), r.Err(), left, err)
	}
}

// P1.1: the forms that are written out by hand.
func TestNumberForm(t *testing.T) {
	for _, x := range []struct {
		n    int
		want string
	}{
		{0, "\x00"}, {1, "\x01"}, {127, "\x7f"},
		{128, "\x80\x01"}, {129, "\x81\x01"}, {300, "\xac\x02"}, {256, "\x80\x02"}, {16383, "\xff\x7f"},
		{16384, "\x80\x80\x01"}, {1<<21 - 1, "\xff\xff\x7f"},
		{1 << 21, "\x80\x80\x80\x01"}, {1<<28 - 1, "\xff\xff\xff\x7f"},
		{1 << 28, "\x80\x80\x80\x80\x01"}, {Most - 1, "\xfe\xff\xff\xff\x0f"}, {Most, "\xff\xff\xff\xff\x0f"},
	} {
		if got := Number(x.n); string(got) != x.want {
			t.Errorf("Number(%d): % x; want % x", x.n, got, x.want)
		}
	}
}

// P1.1: what the words of a number's form say, held against many numbers.
func TestNumberFormByItsWords(t *testing.T) {
	for _, n := range numbers() {
		form := Number(n)
		value := 0
		for i, x := range form {
			value += int(x&127) << (7 * i)
			if last := i == len(form)-1; (x < 128) != last {
				t.Errorf("Number(%d): byte %d of % x", n, i, form)
			}
		}
		if value != n {
			t.Errorf("Number(%d): % x is %d", n, form, value)
		}
		if len(form) > 1 && form[len(form)-1] == 0 {
			t.Errorf("Number(%d): % x ends with 0", n, form)
		}
	}
}

// P1.1: below 0 and above Most there is no form.
func TestNumberWithoutForm(t *testing.T) {
	for _, n := range wrongNumbers() {
		if got := Number(n); len(got) != 0 {
			t.Errorf("Number(%d): % x; want no bytes", n, got)
		}
	}
}

// P1.1: a text's form, up to 4096 bytes (bytes, not runes).
func TestTextForm(t *testing.T) {
	long := strings.Repeat("x", 4096)
	wide := strings.Repeat("\u00e9", 2048)
	for _, x := range []struct{ s, want string }{
		{"", "\x00"}, {"ab", "\x02ab"}, {"\x00\xff", "\x02\x00\xff"}, {"\u00e9", "\x02\xc3\xa9"},
		{long[:127], "\x7f" + long[:127]}, {long[:128], "\x80\x01" + long[:128]},
		{long[:4095], "\xff\x1f" + long[:4095]}, {long, "\x80\x20" + long}, {wide, "\x80\x20" + wide},
	} {
		if got := Text(x.s); string(got) != x.want {
			t.Errorf("Text of %d bytes: % x", len(x.s), got[:min(len(got), 8)])
		}
	}
	for _, s := range []string{long + "x", wide + "x", long + long, strings.Repeat("x", 1<<20)} {
		if got := Text(s); len(got) != 0 {
			t.Errorf("Text of %d bytes: %d bytes; want none", len(s), len(got))
		}
	}
}

// P1.2: a new reader is at the beginning, and nothing is wrong yet.
func TestNew(t *testing.T) {
	for _, n := range []int{0, 1, 7, 5000} {
		told(t, New(make([]byte, n)), n, api.OK)
	}
	told(t, New(nil), 0, api.OK)
}

// P1.2: what is right, and what is wrong first, at each edge that the chapter names.
func TestReaderNumber(t *testing.T) {
	for _, x := range []struct {
		b    string
		most int
		n    int
		e    api.Errno
		left int
	}{
		{"\x00", Most, 0, api.OK, 0},
		{"\x00", 0, 0, api.OK, 0},
		{"\x00\x00", 0, 0, api.OK, 1},
		{"\x7f", 127, 127, api.OK, 0},
		{"\x80\x01", 128, 128, api.OK, 0},
		{"\xac\x02z", 300, 300, api.OK, 1},
		{"\xff\xff\xff\xff\x0f", Most, Most, api.OK, 0},
		{"\xff\xff\xff\xff\x0f", math.MaxInt, Most, api.OK, 0},
		{"\xff\xff\xff\xff\x0fyz", Most, Most, api.OK, 2},
		{"\x80\x80\x80\x80\x01", Most, 1 << 28, api.OK, 0},

		{"", Most, 0, api.ErrShort, 0},
		{"", -1, 0, api.ErrShort, 0},
		{"\x80", Most, 0, api.ErrShort, 0},
		{"\xff", 0, 0, api.ErrShort, 0},
		{"\xff", -1, 0, api.ErrShort, 0},
		{"\x80\x80\x80\x80", Most, 0, api.ErrShort, 0},
		{"\xff\xff\xff\xff", 3, 0, api.ErrShort, 0},

		{"\x80\x80\x80\x80\x80", Most, 0, api.ErrForm, 0},
		{"\xff\xff\xff\xff\x8f", Most, 0, api.ErrForm, 0},
		{"\x80\x80\x80\x80\x80\x01", Most, 0, api.ErrForm, 0},
		{"\x80\x80\x80\x80\x80\x00", Most, 0, api.ErrForm, 0},
		{"\xff\xff\xff\xff\xff\xff\xff\xff\xff\x01", math.MaxInt, 0, api.ErrForm, 0},
		{"\x80\x00", Most, 0, api.ErrForm, 0},
		{"\xff\x00", Most, 0, api.ErrForm, 0},
		{"\x80\x80\x80\x80\x00", Most, 0, api.ErrForm, 0},
		{"\xff\xff\xff\xff\x10", math.MaxInt, 0, api.ErrForm, 0},
		{"\x80\x80\x80\x80\x10", math.MaxInt, 0, api.ErrForm, 0},
		{"\xff\xff\xff\xff\x7f", math.MaxInt, 0, api.ErrForm, 0},
		{"\xac\x02z", 299, 0, api.ErrForm, 0},
		{"\x01", 0, 0, api.ErrForm, 0},
		{"\xff\xff\xff\xff\x0f", Most - 1, 0, api.ErrForm, 0},
		{"\x00", -1, 0, api.ErrForm, 0},
		{"\x05z", math.MinInt, 0, api.ErrForm, 0},
	} {
		r := New([]byte(x.b))
		if n := r.Number(x.most); n != x.n {
			t.Errorf("Number(%d) of % x: %d; want %d", x.most, x.b, n, x.n)
		}
		told(t, r, x.left, x.e)
	}
}

// expect is the chapter's words for Number(most), as plainly as they stand there.
func expect(b []byte, most int) (n, size int, e api.Errno) {
	last := slices.IndexFunc(b, func(x byte) bool { return x < 128 })
	if last < 0 && len(b) < 5 {
		return 0, 0, api.ErrShort
	}
	if last < 0 || last > 4 || last > 0 && b[last] == 0 {
		return 0, 0, api.ErrForm
	}
	place := 1
	for _, x := range b[:last+1] {
		n += int(x%128) * place
		place *= 128
	}
	if n > 1<<32-1 || n > most {
		return 0, 0, api.ErrForm
	}
	return n, last + 1, api.OK
}

// P1.2, P1.5, R1: all lists of up to six bytes out of those at the edges.
func TestReaderNumberOfAll(t *testing.T) {
	edges := []byte{0, 1, 15, 16, 127, 128, 129, 255}
	lists := [][]byte{nil}
	for from := 0; from < len(lists); from++ {
		b := lists[from]
		for _, most := range []int{-1, 0, 127, 128, 1 << 31, Most, math.MaxInt} {
			checkNumber(t, b, most)
		}
		if len(b) == 6 {
			continue
		}
		for _, x := range edges {
			lists = append(lists, append(slices.Clip(b), x))
		}
	}
}

func checkNumber(t *testing.T, b []byte, most int) {
	t.Helper()
	want, size, e := expect(b, most)
	left := 0
	if e == api.OK {
		left = len(b) - size
	}
	r := New(b)
	got := r.Number(most)
	if got != want || r.Err() != e || r.Left() != left {
		t.Fatalf("Number(%d) of % x: %d, err %d, left %d; want %d, %d, %d", most, b, got, r.Err(), r.Left(), want, e, left)
	}
	if e == api.OK && !bytes.Equal(Number(got), b[:size]) {
		t.Fatalf("%d was read from % x, and has the form % x", got, b[:size], Number(got))
	}
}

// P1.3: texts that are right, and what is wrong first.
func TestReaderText(t *testing.T) {
	long := strings.Repeat("x", 4096)
	for _, x := range []struct {
		b    string
		most int
		s    string
		e    api.Errno
		left int
	}{
		{"\x00", 0, "", api.OK, 0},
		{"\x00z", 9, "", api.OK, 1},
		{"\x02ab", 2, "ab", api.OK, 0},
		{"\x02abc", 2, "ab", api.OK, 1},
		{"\x02\x00\xff", Most, "\x00\xff", api.OK, 0},
		{"\x80\x20" + long + "yz", 4096, long, api.OK, 2},
		{"\x81\x20" + long + "yz", 4097, long + "y", api.OK, 1},

		{"", 9, "", api.ErrShort, 0},
		{"\x80", 9, "", api.ErrShort, 0},
		{"\x03ab", 3, "", api.ErrShort, 0},
		{"\x01", 1, "", api.ErrShort, 0},
		{"\x80\x20" + long[1:], 4096, "", api.ErrShort, 0},
		{"\xff\xff\xff\xff\x0fab", Most, "", api.ErrShort, 0},

		{"\x03ab", 2, "", api.ErrForm, 0},
		{"\x03abc", 2, "", api.ErrForm, 0},
		{"\x00", -1, "", api.ErrForm, 0},
		{"\x82\x00ab", 9, "", api.ErrForm, 0},
		{"\x80\x80\x80\x80\x80", Most, "", api.ErrForm, 0},
		{"\xff\xff\xff\xff\x10ab", math.MaxInt, "", api.ErrForm, 0},
	} {
		r := New([]byte(x.b))
		if s := r.Text(x.most); s != x.s {
			t.Errorf("Text(%d) of % x..: %d bytes; want %d", x.most, x.b[:min(len(x.b), 8)], len(s), len(x.s))
		}
		told(t, r, x.left, x.e)
	}
}

// P1.2, P1.3, P1.4: behind something that was wrong there is nothing more, and the first error stays.
func TestBehindWhatWasWrong(t *testing.T) {
	for _, x := range []struct {
		b     string
		wrong func(r *Reader)
		e     api.Errno
	}{
		{"\x05\x06\x02ab", func(r *Reader) { r.Number(4) }, api.ErrForm},
		{"\x05\x06\x02ab", func(r *Reader) { r.Number(-1) }, api.ErrForm},
		{"\x85\x00\x02ab", func(r *Reader) { r.Number(Most) }, api.ErrForm},
		{"\x80\x80\x80\x80\x80\x01\x02ab", func(r *Reader) { r.Number(Most) }, api.ErrForm},
		{"\x02ab\x01c", func(r *Reader) { r.Text(1) }, api.ErrForm},
		{"\x07\x01ab", func(r *Reader) { r.Text(9) }, api.ErrShort},
		{"\xff\xff", func(r *Reader) { r.Number(Most) }, api.ErrShort},
		{"\xff\xff", func(r *Reader) { r.Text(9) }, api.ErrShort},
	} {
		r := New([]byte(x.b))
		x.wrong(r)
		for _, most := range []int{Most, -1, 0, 9} {
			if n := r.Number(most); n != 0 {
				t.Errorf("% x: number %d", x.b, n)
			}
			told(t, r, 0, x.e)
			if s := r.Text(most); s != "" {
				t.Errorf("% x: text %q", x.b, s)
			}
			told(t, r, 0, x.e)
		}
	}
}

// P1.4: Left falls by what is read, and asking changes nothing.
func TestLeftAndErr(t *testing.T) {
	r := New([]byte("\x07\xac\x02\x02ab\x00z"))
	told(t, r, 8, api.OK)
	told(t, r, 8, api.OK)
	r.Number(7)
	told(t, r, 7, api.OK)
	r.Number(300)
	told(t, r, 5, api.OK)
	r.Text(2)
	told(t, r, 2, api.OK)
	r.Text(0)
	told(t, r, 1, api.OK)
	r.Text(9)
	told(t, r, 0, api.ErrForm)
	r.Number(9)
	told(t, r, 0, api.ErrForm)

	end := New([]byte{9})
	end.Number(9)
	told(t, end, 0, api.OK)
	end.Number(9)
	told(t, end, 0, api.ErrShort)
}

// P1.5: what is written is read, one behind the other, and nothing is left.
func TestWrittenIsRead(t *testing.T) {
	texts := []string{"", "a", "ab", "\x00", "\x80\xff", strings.Repeat("n", 127), strings.Repeat("m", 128), strings.Repeat("l", 4096)}
	var all []byte
	for _, n := range numbers() {
		all = append(all, Number(n)...)
		for _, s := range texts {
			all = append(all, Text(s)...)
		}
	}
	r := New(all)
	for _, n := range numbers() {
		if got := r.Number(n); got != n {
			t.Fatalf("number %d was read as %d", n, got)
		}
		for _, s := range texts {
			if got := r.Text(len(s)); got != s {
				t.Fatalf("text of %d bytes was read as one of %d", len(s), len(got))
			}
		}
	}
	told(t, r, 0, api.OK)
}

// P1.5: of the lists of up to two bytes, just one is read wholly as each number below 16384.
func TestOneForm(t *testing.T) {
	count := make([]int, 1<<14)
	note := func(b []byte) {
		r := New(b)
		if n := r.Number(Most); r.Err() == api.OK && r.Left() == 0 {
			count[n]++
		}
	}
	for x := range 256 {
		note([]byte{byte(x)})
		for y := range 256 {
			note([]byte{byte(x), byte(y)})
		}
	}
	for n, c := range count {
		if c != 1 {
			t.Errorf("%d has %d forms", n, c)
		}
	}
}

// R4: nil and empty are the same.
func TestNilIsEmpty(t *testing.T) {
	for _, b := range [][]byte{nil, {}} {
		told(t, New(b), 0, api.OK)
		n := New(b)
		n.Number(9)
		told(t, n, 0, api.ErrShort)
		s := New(b)
		s.Text(9)
		told(t, s, 0, api.ErrShort)
	}
}

// R5: a reader changes nothing of what it was handed, and doesn't see what is changed there later.
func TestMemoryOfItsOwn(t *testing.T) {
	b := []byte("\x02ab\x02cd\xac\x02")
	before := bytes.Clone(b)
	r := New(b)
	first := r.Text(9)
	if !bytes.Equal(b, before) {
		t.Errorf("the bytes were changed: % x", b)
	}
	clear(b)
	if second := r.Text(9); first != "ab" || second != "cd" || r.Number(Most) != 300 {
		t.Errorf("%q %q", first, second)
	}
	told(t, r, 0, api.OK)

	one, two := Number(300), Number(300)
	clear(one[:cap(one)])
	if string(two) != "\xac\x02" || string(Number(300)) != "\xac\x02" {
		t.Error("two forms share memory")
	}
	form, again := Text("ab"), Text("ab")
	clear(form[:cap(form)])
	if string(again) != "\x02ab" || string(Text("ab")) != "\x02ab" {
		t.Error("two forms of a text share memory")
	}
}

// R6: two readers of the same bytes answer the same, whatever the other one did.
func TestReadersApart(t *testing.T) {
	b := []byte("\x05\x02ab")
	wrong, right := New(b), New(b)
	wrong.Number(4)
	if n, s := right.Number(5), right.Text(2); n != 5 || s != "ab" {
		t.Errorf("%d %q", n, s)
	}
	told(t, wrong, 0, api.ErrForm)
	told(t, right, 0, api.OK)
}

// R7: a number above Most is an int.
func TestIntHas64Bits(t *testing.T) {
	if math.MaxInt != math.MaxInt64 || Most != 4294967295 {
		t.Error("int")
	}
}

// FuzzReader: whatever is read, nothing panics (R1), and what was read is what would be written.
func FuzzReader(f *testing.F) {
	f.Add([]byte("\xac\x02\x02ab"), 300, 2)
	f.Add([]byte("\xff\xff\xff\xff\x10"), math.MaxInt, -1)
	f.Fuzz(func(t *testing.T, b []byte, numberMost, textMost int) {
		checkNumber(t, b, numberMost)
		r := New(b)
		n := r.Number(numberMost)
		s := r.Text(textMost)
		if r.Err() != api.OK {
			if s != "" || r.Left() != 0 {
				t.Errorf("%q, left %d beside an error", s, r.Left())
			}
			return
		}
		if len(s) > maxText {
			return
		}
		whole := slices.Concat(Number(n), Text(s), b[len(b)-r.Left():])
		if !bytes.Equal(whole, b) {
			t.Errorf("% x was read, and % x would be written", b, whole)
		}
	})
}
