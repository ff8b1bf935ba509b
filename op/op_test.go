package op

import (
	"bytes"
	"math"
	"slices"
	"strings"
	"testing"
	"unicode/utf8"

	"holt/api"
	"holt/pack"
	"holt/stamp"
)

const (
	maxN    = 16777215
	maxNode = 4294967295
)

// example is the chapter's, and form is how it is written.
var example = api.Op{At: api.Stamp{N: 5, R: 7}, Node: 1287, Name: "a"}

const form = "\x05\x07\x87\x0a\x00\x01a"

// edges are numbers at and about all that the chapter names, those whose forms grow, and the least and greatest there are.
func edges() []int {
	l := []int{math.MinInt, math.MinInt + 1, math.MaxInt - 1, math.MaxInt}
	for _, n := range []int{0, 2, 128, 256, 1287, 16384, 1 << 21, maxN, 1 << 28, 1 << 31, maxNode, 1<<32 + 256, 1 << 40, 1 << 62} {
		l = append(l, n-1, n, n+1, -n-1, -n, -n+1)
	}
	slices.Sort(l)
	return slices.Compact(l)
}

// names are such, those at their edges too.
func names() []string {
	return []string{"a", "b", "ab", "abc", "B", "z", " ", "!", "~", ".", "..", "0", "\\", "\u0080", "\u00e9", "\ufffd", "\U0001f333", "a b", strings.Repeat("n", 19), strings.Repeat("n", 20), strings.Repeat("\u00e9", 10), strings.Repeat("\U0001f333", 5)}
}

// noNames are texts that aren't names.
func noNames() []string {
	return []string{"", "/", "/a", "a/", "a/b", "\x00", "a\x00", "\n", "\x1f", "\x7f", "a\x7f", "\x80", "\xff", "a\xc3", "\xc0\xaf", "\xed\xa0\x80", "\xf4\x90\x80\x80", strings.Repeat("n", 21), strings.Repeat("\u00e9", 10) + "n", strings.Repeat("n", 5000)}
}

// isNode tells whether a number may be a node's, as the chapter's words say it.
func isNode(n int) bool { return n >= 256 && n <= maxNode }

// isName tells whether a text is a name, as chapter 3's words say it.
func isName(s string) bool {
	wrong := func(r rune) bool { return r < 32 || r == 127 || r == '/' }
	return len(s) >= 1 && len(s) <= 20 && utf8.ValidString(s) && !strings.ContainsFunc(s, wrong)
}

// isRight tells whether an operation is, as the words of chapters 3 to 5 say it.
func isRight(o api.Op) bool {
	at := o.At.N >= 1 && o.At.N <= maxN && o.At.R >= 0 && o.At.R <= 255
	return at && isNode(o.Node) && (o.To == 0 || o.To == 1 || isNode(o.To)) && isName(o.Name)
}

// heldNames is how two texts are to each other, byte by byte.
func heldNames(a, b string) int {
	for i := range min(len(a), len(b)) {
		if a[i] != b[i] {
			return heldNumbers(int(a[i]), int(b[i]))
		}
	}
	return heldNumbers(len(a), len(b))
}

func heldNumbers(a, b int) int {
	switch {
	case a < b:
		return -1
	case a > b:
		return 1
	}
	return 0
}

// heldByWords is how two operations are to each other, as the chapter's words say it.
func heldByWords(a, b api.Op) int {
	switch {
	case a.At.N != b.At.N:
		return heldNumbers(a.At.N, b.At.N)
	case a.At.R != b.At.R:
		return heldNumbers(a.At.R, b.At.R)
	case a.Node != b.Node:
		return heldNumbers(a.Node, b.Node)
	case a.To != b.To:
		return heldNumbers(a.To, b.To)
	}
	return heldNames(a.Name, b.Name)
}

// number writes any number from 0 on as chapter 1's words say it, those too that no operation may have.
func number(n int) []byte {
	var b []byte
	for ; n >= 128; n /= 128 {
		b = append(b, byte(n%128+128))
	}
	return append(b, byte(n))
}

// put writes any operation whose numbers aren't below 0, right or not.
func put(o api.Op) []byte {
	return slices.Concat(number(o.At.N), number(o.At.R), number(o.Node), number(o.To), number(len(o.Name)), []byte(o.Name))
}

// find is the first number of b, and how many bytes it has, as chapter 1's words say it.
func find(b []byte, most int) (n, size int, e api.Errno) {
	last := slices.IndexFunc(b, func(x byte) bool { return x < 128 })
	switch {
	case last < 0 && len(b) < 5:
		return 0, 0, api.ErrShort
	case last < 0, last > 4, last > 0 && b[last] == 0:
		return 0, 0, api.ErrForm
	}
	for i, x := range b[:last+1] {
		n += int(x%128) << (7 * i)
	}
	if n > most {
		return 0, 0, api.ErrForm
	}
	return n, last + 1, api.OK
}

// take is what should be read from b: the five, right or not, how many bytes are left, and what was wrong.
func take(b []byte) (o api.Op, left int, e api.Errno) {
	size := 0
	for _, x := range []struct {
		to   *int
		most int
	}{{&o.At.N, maxN}, {&o.At.R, 255}, {&o.Node, maxNode}, {&o.To, maxNode}, {&size, 20}} {
		n, used, e := find(b, x.most)
		if e != api.OK {
			return api.Op{}, 0, e
		}
		*x.to, b = n, b[used:]
	}
	if size > len(b) {
		return api.Op{}, 0, api.ErrShort
	}
	o.Name = string(b[:size])
	return o, len(b) - size, api.OK
}

// checkOp holds Right and Put of an operation against the words, and Take of what was put.
func checkOp(t *testing.T, o api.Op) {
	t.Helper()
	right := isRight(o)
	if got := Right(o); got != right {
		t.Errorf("Right(%v) = %v", o, got)
	}
	b := Put(o)
	if !right {
		if len(b) != 0 {
			t.Errorf("Put(%v) = % x", o, b)
		}
		return
	}
	if !bytes.Equal(b, put(o)) {
		t.Errorf("Put(%v) = % x, not % x", o, b, put(o))
	}
	r := pack.New(append(b, 9, 8))
	if back, ok := Take(r); back != o || !ok || r.Left() != 2 || r.Err() != api.OK || r.Number(9) != 9 {
		t.Errorf("%v was put, and taken: %v, %v, left %v, err %v", o, back, ok, r.Left(), r.Err())
	}
}

// checkTake holds Take, and where the reader stands behind it, against the words.
func checkTake(t *testing.T, b []byte) {
	t.Helper()
	want, left, e := take(b)
	ok := e == api.OK && isRight(want)
	if !ok {
		want = api.Op{}
	}
	r := pack.New(b)
	got, right := Take(r)
	if got != want || right != ok || r.Left() != left || r.Err() != e {
		t.Errorf("Take of % x: %v, %v, left %v, err %v; want %v, %v, %v, %v", b, got, right, r.Left(), r.Err(), want, ok, left, e)
	}
	if ok && !bytes.Equal(Put(got), b[:len(b)-left]) {
		t.Errorf("%v was taken from % x, and put as % x", got, b, Put(got))
	}
}

// checkPair holds Cmp against the words, both ways round.
func checkPair(t *testing.T, a, b api.Op) {
	t.Helper()
	want := heldByWords(a, b)
	if got := Cmp(a, b); got != want {
		t.Errorf("Cmp(%v, %v) = %v, not %v", a, b, got, want)
	}
	if got := Cmp(b, a); got != -want {
		t.Errorf("Cmp(%v, %v) = %v, not %v", b, a, got, -want)
	}
}

// around are operations of which each has one field of o changed, to all that the tests have for it.
func around(o api.Op) []api.Op {
	l := []api.Op{o}
	for _, n := range edges() {
		for _, field := range []func(*api.Op) *int{
			func(p *api.Op) *int { return &p.At.N },
			func(p *api.Op) *int { return &p.At.R },
			func(p *api.Op) *int { return &p.Node },
			func(p *api.Op) *int { return &p.To },
		} {
			p := o
			*field(&p) = n
			l = append(l, p)
		}
	}
	for _, s := range slices.Concat(names(), noNames()) {
		p := o
		p.Name = s
		l = append(l, p)
	}
	return l
}

// rights are right operations, all whose fields are at their edges, and some between.
func rights() []api.Op {
	var l []api.Op
	for _, n := range []int{1, 127, 128, maxN} {
		for _, r := range []int{0, 7, 255} {
			for _, node := range []int{256, 1287, 1 << 28, maxNode} {
				for _, to := range []int{0, 1, 256, 1287, maxNode} {
					for _, s := range []string{"a", "ab", "\u00e9", strings.Repeat("n", 20)} {
						l = append(l, api.Op{At: api.Stamp{N: n, R: r}, Node: node, To: to, Name: s})
					}
				}
			}
		}
	}
	return l
}

func TestExample(t *testing.T) {
	if b := Put(example); string(b) != form {
		t.Errorf("% x", b)
	}
	r := pack.New([]byte(form))
	if o, ok := Take(r); o != example || !ok || r.Left() != 0 || r.Err() != api.OK {
		t.Error(o, ok, r.Left(), r.Err())
	}
	if !Right(example) || !Node(example.Node) || Cmp(example, example) != 0 {
		t.Error("the example isn't right, or isn't itself")
	}
}

// P5.1: a node's number is a stamp's ID, and none of those that are given.
func TestNode(t *testing.T) {
	for _, n := range []int{256, 257, 511, 512, 1287, 1 << 31, 4294967294, 4294967295} {
		if !Node(n) {
			t.Error(n)
		}
	}
	for _, n := range []int{math.MinInt, -4294967296, -1287, -256, -1, api.Root, api.Trash, 2, 254, 255, 4294967296, 4294967297, 1<<32 + 256, 1 << 40, math.MaxInt} {
		if Node(n) {
			t.Error(n)
		}
	}
	for _, about := range edges() {
		for d := -300; d <= 300; d++ {
			_, ok := stamp.Of(about + d)
			if got := Node(about + d); got != isNode(about+d) || got != ok {
				t.Error(about+d, got)
			}
		}
	}
	if MaxNode != 4294967295 || MaxNode != stamp.ID(api.Stamp{N: api.MaxN, R: api.MaxReplicas - 1}) {
		t.Error(MaxNode)
	}
}

// P5.1: each field alone, at its edges and past them.
func TestRight(t *testing.T) {
	at := example.At
	for _, x := range []struct {
		o    api.Op
		want bool
	}{
		{api.Op{At: at, Node: 1287, To: 0, Name: "a"}, true},
		{api.Op{At: at, Node: 1287, To: 1, Name: "a"}, true},
		{api.Op{At: at, Node: 1287, To: 256, Name: "a"}, true},
		{api.Op{At: at, Node: 1287, To: maxNode, Name: "a"}, true},
		{api.Op{At: at, Node: 1287, To: 1287, Name: "a"}, true},
		{api.Op{At: at, Node: 256, Name: "a"}, true},
		{api.Op{At: at, Node: maxNode, Name: "a"}, true},
		{api.Op{At: api.Stamp{N: 1}, Node: 1287, Name: "a"}, true},
		{api.Op{At: api.Stamp{N: maxN, R: 255}, Node: 1287, Name: "a"}, true},
		{api.Op{At: at, Node: 1287, Name: strings.Repeat("n", 20)}, true},

		{api.Op{}, false},
		{api.Op{Node: 1287, Name: "a"}, false},
		{api.Op{At: api.Stamp{R: 7}, Node: 1287, Name: "a"}, false},
		{api.Op{At: api.Stamp{N: -1, R: 7}, Node: 1287, Name: "a"}, false},
		{api.Op{At: api.Stamp{N: maxN + 1, R: 7}, Node: 1287, Name: "a"}, false},
		{api.Op{At: api.Stamp{N: 5, R: -1}, Node: 1287, Name: "a"}, false},
		{api.Op{At: api.Stamp{N: 5, R: 256}, Node: 1287, Name: "a"}, false},
		{api.Op{At: at, Name: "a"}, false},
		{api.Op{At: at, Node: 1, Name: "a"}, false},
		{api.Op{At: at, Node: 2, Name: "a"}, false},
		{api.Op{At: at, Node: 255, Name: "a"}, false},
		{api.Op{At: at, Node: -256, Name: "a"}, false},
		{api.Op{At: at, Node: maxNode + 1, Name: "a"}, false},
		{api.Op{At: at, Node: math.MaxInt, Name: "a"}, false},
		{api.Op{At: at, Node: math.MinInt, Name: "a"}, false},
		{api.Op{At: at, Node: 1287, To: -1, Name: "a"}, false},
		{api.Op{At: at, Node: 1287, To: 2, Name: "a"}, false},
		{api.Op{At: at, Node: 1287, To: 255, Name: "a"}, false},
		{api.Op{At: at, Node: 1287, To: maxNode + 1, Name: "a"}, false},
		{api.Op{At: at, Node: 1287, To: math.MaxInt, Name: "a"}, false},
		{api.Op{At: at, Node: 1287, To: math.MinInt, Name: "a"}, false},
		{api.Op{At: at, Node: 1287, Name: ""}, false},
		{api.Op{At: at, Node: 1287, Name: "a/b"}, false},
		{api.Op{At: at, Node: 1287, Name: "\xff"}, false},
		{api.Op{At: at, Node: 1287, Name: strings.Repeat("n", 21)}, false},
	} {
		if got := Right(x.o); got != x.want {
			t.Errorf("Right(%v) = %v", x.o, got)
		}
		checkOp(t, x.o)
	}
	for _, o := range around(example) {
		checkOp(t, o)
	}
}

// P5.1: names of each kind, and what is none, in an operation that is right else.
func TestRightOfNames(t *testing.T) {
	o := example
	for _, o.Name = range names() {
		if !Right(o) {
			t.Errorf("%q", o.Name)
		}
	}
	for _, o.Name = range noNames() {
		if Right(o) {
			t.Errorf("%q", o.Name)
		}
	}
}

// P5.2: each field alone, an earlier one against all later ones, and wrong operations too.
func TestCmp(t *testing.T) {
	at := api.Stamp{N: 5, R: 7}
	for _, x := range []struct {
		a, b api.Op
		want int
	}{
		{example, example, 0},
		{api.Op{}, api.Op{}, 0},
		{api.Op{At: api.Stamp{N: 5, R: 7}}, api.Op{At: api.Stamp{N: 6, R: 7}}, -1},
		{api.Op{At: api.Stamp{N: 5, R: 7}}, api.Op{At: api.Stamp{N: 5, R: 8}}, -1},
		{api.Op{At: at, Node: 256}, api.Op{At: at, Node: 257}, -1},
		{api.Op{At: at, Node: 256, To: 0}, api.Op{At: at, Node: 256, To: 1}, -1},
		{api.Op{At: at, Node: 256, Name: "a"}, api.Op{At: at, Node: 256, Name: "b"}, -1},

		{api.Op{At: api.Stamp{N: 5, R: 9}, Node: 999, To: 999, Name: "z"}, api.Op{At: api.Stamp{N: 6, R: 1}, Node: 256, To: 0, Name: "a"}, -1},
		{api.Op{At: api.Stamp{N: 5, R: 7}, Node: 999, To: 999, Name: "z"}, api.Op{At: api.Stamp{N: 5, R: 8}, Node: 256, To: 0, Name: "a"}, -1},
		{api.Op{At: at, Node: 256, To: 999, Name: "z"}, api.Op{At: at, Node: 257, To: 0, Name: "a"}, -1},
		{api.Op{At: at, Node: 256, To: 0, Name: "z"}, api.Op{At: at, Node: 256, To: 1, Name: "a"}, -1},

		{api.Op{Name: ""}, api.Op{Name: "a"}, -1},
		{api.Op{Name: "a"}, api.Op{Name: "ab"}, -1},
		{api.Op{Name: "ab"}, api.Op{Name: "b"}, -1},
		{api.Op{Name: "B"}, api.Op{Name: "a"}, -1},
		{api.Op{Name: "a"}, api.Op{Name: "a\x00"}, -1},
		{api.Op{Name: "z"}, api.Op{Name: "\u00e9"}, -1},
		{api.Op{Name: "\x7f"}, api.Op{Name: "\x80"}, -1},
		{api.Op{Name: "\u00e9"}, api.Op{Name: "\xff"}, -1},
		{api.Op{Name: "e\u0301"}, api.Op{Name: "\u00e9"}, -1},
		{api.Op{Name: "\ufffd"}, api.Op{Name: "\xff"}, -1},
		{api.Op{Name: "\uffff"}, api.Op{Name: "\U00010000"}, -1},

		{api.Op{Node: -1}, api.Op{}, -1},
		{api.Op{To: -1}, api.Op{}, -1},
		{api.Op{Node: math.MinInt}, api.Op{Node: math.MaxInt}, -1},
		{api.Op{To: math.MinInt}, api.Op{To: math.MaxInt}, -1},
		{api.Op{At: api.Stamp{N: math.MinInt}}, api.Op{At: api.Stamp{N: math.MaxInt}}, -1},
		{api.Op{At: api.Stamp{R: math.MinInt}}, api.Op{At: api.Stamp{R: math.MaxInt}}, -1},
		{api.Op{Node: 1}, api.Op{Node: 1<<32 + 1}, -1},
		{api.Op{To: 1}, api.Op{To: 1<<32 + 1}, -1},
	} {
		if got := Cmp(x.a, x.b); got != x.want {
			t.Errorf("Cmp(%v, %v) = %v", x.a, x.b, got)
		}
		if got := Cmp(x.b, x.a); got != -x.want {
			t.Errorf("Cmp(%v, %v) = %v", x.b, x.a, got)
		}
	}
	l := around(example)
	for _, a := range l {
		for _, b := range l {
			checkPair(t, a, b)
		}
	}
}

// P5.4: of right operations in their order, each stands behind the one ahead of it, and so do their stamps, if they differ.
func TestOneOrder(t *testing.T) {
	l := rights()
	count := len(l)
	slices.Reverse(l)
	slices.SortFunc(l, Cmp)
	if l = slices.Compact(l); len(l) != count {
		t.Error(len(l), count)
	}
	for i := 1; i < len(l); i++ {
		if heldByWords(l[i-1], l[i]) != -1 || stamp.Cmp(l[i-1].At, l[i].At) > 0 {
			t.Error(l[i-1], l[i])
		}
	}
}

// P5.4: of three, none stands ahead of one that it is behind; and those that are the same are one, of any operations.
func TestCmpIsAnOrder(t *testing.T) {
	var l []api.Op
	for _, n := range []int{math.MinInt, 0, math.MaxInt} {
		for _, node := range []int{-1, 256} {
			for _, to := range []int{math.MinInt, math.MaxInt} {
				for _, s := range []string{"", "a", "ab", "\xff"} {
					l = append(l, api.Op{At: api.Stamp{N: n, R: -n}, Node: node, To: to, Name: s})
				}
			}
		}
	}
	for _, a := range l {
		for _, b := range l {
			if (Cmp(a, b) == 0) != (a == b) || Cmp(a, b) != -Cmp(b, a) {
				t.Error(a, b)
			}
			for _, c := range l {
				if Cmp(a, b) < 0 && Cmp(b, c) < 0 && Cmp(a, c) >= 0 {
					t.Error(a, b, c)
				}
			}
		}
	}
}

// P5.3: forms that are written out by hand, and none of what isn't right.
func TestPut(t *testing.T) {
	n20 := strings.Repeat("n", 20)
	for _, x := range []struct {
		o    api.Op
		want string
	}{
		{example, form},
		{api.Op{At: api.Stamp{N: 1}, Node: 256, To: 1, Name: "b"}, "\x01\x00\x80\x02\x01\x01b"},
		{api.Op{At: api.Stamp{N: 128, R: 128}, Node: 300, To: 256, Name: "\u00e9"}, "\x80\x01\x80\x01\xac\x02\x80\x02\x02\xc3\xa9"},
		{api.Op{At: api.Stamp{N: maxN, R: 255}, Node: maxNode, To: maxNode, Name: n20}, "\xff\xff\xff\x07\xff\x01\xff\xff\xff\xff\x0f\xff\xff\xff\xff\x0f\x14" + n20},

		{api.Op{}, ""},
		{api.Op{Node: 1287, Name: "a"}, ""},
		{api.Op{At: api.Stamp{N: maxN + 1}, Node: 1287, Name: "a"}, ""},
		{api.Op{At: api.Stamp{N: 5, R: 256}, Node: 1287, Name: "a"}, ""},
		{api.Op{At: example.At, Node: 255, Name: "a"}, ""},
		{api.Op{At: example.At, Node: maxNode + 1, Name: "a"}, ""},
		{api.Op{At: example.At, Node: 1287, To: 2, Name: "a"}, ""},
		{api.Op{At: example.At, Node: 1287, To: -1, Name: "a"}, ""},
		{api.Op{At: example.At, Node: 1287}, ""},
		{api.Op{At: example.At, Node: 1287, Name: "/"}, ""},
		{api.Op{At: example.At, Node: 1287, Name: n20 + "n"}, ""},
	} {
		if b := Put(x.o); string(b) != x.want {
			t.Errorf("Put(%v) = % x, not % x", x.o, b, x.want)
		}
	}
}

// P5.4: what is put is taken, each alone, and all of them one behind the other.
func TestPutIsTaken(t *testing.T) {
	var all []byte
	l := rights()
	for _, o := range l {
		checkOp(t, o)
		all = append(all, Put(o)...)
	}
	r := pack.New(all)
	for _, o := range l {
		if got, ok := Take(r); got != o || !ok {
			t.Fatal(got, ok, o)
		}
	}
	if r.Left() != 0 || r.Err() != api.OK {
		t.Error(r.Left(), r.Err())
	}
	if o, ok := Take(r); ok || o != (api.Op{}) || r.Err() != api.ErrShort {
		t.Error(o, ok, r.Err())
	}
}

// P5.4: no two operations are put as the same bytes, and none's bytes begin another's.
func TestOneForm(t *testing.T) {
	var l []string
	for _, o := range rights() {
		l = append(l, string(Put(o)))
	}
	slices.Sort(l)
	for i := 1; i < len(l); i++ {
		if strings.HasPrefix(l[i], l[i-1]) {
			t.Errorf("% x and % x", l[i-1], l[i])
		}
	}
}

// P5.3: bytes that are cut off at any place.
func TestTakeOfCutBytes(t *testing.T) {
	for _, o := range rights() {
		b := Put(o)
		for n := range b {
			r := pack.New(b[:n])
			if got, ok := Take(r); ok || got != (api.Op{}) || r.Left() != 0 || r.Err() != api.ErrShort {
				t.Errorf("% x: %v, %v, left %v, err %v", b[:n], got, ok, r.Left(), r.Err())
			}
		}
	}
	for _, b := range [][]byte{nil, {}} {
		r := pack.New(b)
		if got, ok := Take(r); ok || got != (api.Op{}) || r.Err() != api.ErrShort {
			t.Error(got, ok, r.Err())
		}
	}
}

// P5.3: numbers and texts past their bounds are wrong for the reader, and nothing is read behind them.
func TestTakePastBounds(t *testing.T) {
	n21 := strings.Repeat("n", 21)
	for _, b := range []string{
		"\x80\x80\x80\x08\x07\x87\x0a\x00\x01a",                 // N 16777216
		"\xff\xff\xff\xff\x0f\x07\x87\x0a\x00\x01a",             // N 4294967295
		"\x05\x80\x02\x87\x0a\x00\x01a",                         // R 256
		"\x05\xff\xff\xff\xff\x0f\x87\x0a\x00\x01a",             // R 4294967295
		"\x05\x07\x80\x80\x80\x80\x10\x00\x01a",                 // Node 4294967296
		"\x05\x07\x87\x0a\x80\x80\x80\x80\x10\x01a",             // To 4294967296
		"\x05\x07\x87\x0a\x00\x15" + n21,                        // a name of 21
		"\x05\x07\x87\x0a\x00\xff\xff\xff\xff\x0f" + n21,        // a name of 4294967295
		"\x85\x00\x07\x87\x0a\x00\x01a",                         // N with a last byte of 0
		"\x05\x87\x00\x87\x0a\x00\x01a",                         // R likewise
		"\x05\x07\x87\x8a\x00\x00\x01a",                         // Node likewise
		"\x05\x07\x87\x0a\x80\x00\x01a",                         // To likewise
		"\x05\x07\x87\x0a\x00\x81\x00a",                         // the name's number likewise
		"\x80\x80\x80\x80\x80\x01\x07\x87\x0a\x00\x01a",         // N of six bytes
		"\x05\x07\x87\x0a\x00\x80\x80\x80\x80\x80\x80\x80\x80a", // a name's number without an end
	} {
		r := pack.New([]byte(b))
		if got, ok := Take(r); ok || got != (api.Op{}) || r.Left() != 0 || r.Err() != api.ErrForm {
			t.Errorf("% x: %v, %v, left %v, err %v", b, got, ok, r.Left(), r.Err())
		}
		checkTake(t, []byte(b))
	}
}

// P5.3: all five are read, whatever they are: behind an operation that isn't right the reader goes on.
func TestTakeBehindWhatIsNotRight(t *testing.T) {
	n20 := strings.Repeat("n", 20)
	for _, b := range []string{
		"\x00\x07\x87\x0a\x00\x01a",                      // N 0
		"\x00\x00\x00\x00\x00",                           // zeros
		"\x05\x07\x00\x00\x01a",                          // Node 0
		"\x05\x07\x01\x00\x01a",                          // Node 1
		"\x05\x07\xff\x01\x00\x01a",                      // Node 255
		"\x05\x07\x87\x0a\x02\x01a",                      // To 2
		"\x05\x07\x87\x0a\xff\x01\x01a",                  // To 255
		"\x05\x07\x87\x0a\x00\x00",                       // no name
		"\x05\x07\x87\x0a\x00\x01/",                      // a stroke
		"\x05\x07\x87\x0a\x00\x02a\xff",                  // not well-formed
		"\x05\x07\x87\x0a\x00\x14" + n20[1:] + "\x7f",    // a byte that no name has
		"\x00\xff\x01\xff\x01\xff\x01\x03/\x00\xff",      // all of it
		"\x00\xff\x01\x02\xff\xff\xff\xff\x0f\x14" + n20, // N and Node
	} {
		r := pack.New([]byte(b + form + "\x09"))
		if got, ok := Take(r); ok || got != (api.Op{}) || r.Left() != len(form)+1 || r.Err() != api.OK {
			t.Errorf("% x: %v, %v, left %v, err %v", b, got, ok, r.Left(), r.Err())
		}
		if got, ok := Take(r); !ok || got != example || r.Left() != 1 || r.Err() != api.OK {
			t.Errorf("behind % x: %v, %v, left %v, err %v", b, got, ok, r.Left(), r.Err())
		}
	}
}

// P5.3: all operations whose numbers can be written, right or not, and past the bounds.
func TestTakeOfAll(t *testing.T) {
	for _, base := range []api.Op{example, {At: api.Stamp{N: maxN, R: 255}, Node: maxNode, To: maxNode, Name: "\u00e9"}, {}} {
		for _, o := range around(base) {
			if min(o.At.N, o.At.R, o.Node, o.To) >= 0 {
				checkTake(t, put(o))
				checkTake(t, append(put(o), form...))
			}
		}
	}
}

// P5.3: each byte of some forms turned to each other one, and left out.
func TestTakeOfTurnedBytes(t *testing.T) {
	l := rights()
	for i := 0; i < len(l); i += 37 {
		b := append(Put(l[i]), 0, 1, 'z')
		for at := range b {
			for x := range 256 {
				turned := bytes.Clone(b)
				turned[at] = byte(x)
				checkTake(t, turned)
			}
			checkTake(t, slices.Delete(bytes.Clone(b), at, at+1))
		}
	}
}

// P5.3: where something was wrong ahead, nothing is taken, and the first error stays.
func TestTakeBehindWhatWasWrong(t *testing.T) {
	wrong := pack.New([]byte("\x05" + form))
	wrong.Number(4)
	short := pack.New([]byte("\x7f" + form))
	short.Text(200)
	for _, x := range []struct {
		r *pack.Reader
		e api.Errno
	}{{wrong, api.ErrForm}, {short, api.ErrShort}} {
		for range 2 {
			if o, ok := Take(x.r); ok || o != (api.Op{}) || x.r.Left() != 0 || x.r.Err() != x.e {
				t.Error(o, ok, x.r.Left(), x.r.Err())
			}
		}
	}
}

// P5.3: Take begins where the reader stands, and what is read behind it by others is where it ends.
func TestTakeWhereTheReaderStands(t *testing.T) {
	r := pack.New([]byte("\x02ab" + form + "\xac\x02" + form))
	if s := r.Text(9); s != "ab" {
		t.Error(s)
	}
	if o, ok := Take(r); o != example || !ok || r.Left() != 2+len(form) {
		t.Error(o, ok, r.Left())
	}
	if n := r.Number(300); n != 300 {
		t.Error(n)
	}
	if o, ok := Take(r); o != example || !ok || r.Left() != 0 {
		t.Error(o, ok, r.Left())
	}
}

// R5: what is answered is memory of its own.
func TestMemoryOfItsOwn(t *testing.T) {
	one, two := Put(example), Put(example)
	clear(one[:cap(one)])
	if string(two) != form || string(Put(example)) != form {
		t.Error("two forms share memory")
	}
	b := []byte(form)
	o, ok := Take(pack.New(b))
	if string(b) != form {
		t.Errorf("the bytes were changed: % x", b)
	}
	clear(b)
	if o != example || !ok {
		t.Error(o, ok)
	}
}

// FuzzTake: whatever is read, nothing panics (R1), and what was taken is what would be put.
func FuzzTake(f *testing.F) {
	f.Add([]byte(form))
	f.Add([]byte("\xff\xff\xff\x07\xff\x01\xff\xff\xff\xff\x0f\xff\xff\xff\xff\x0f\x02\xc3\xa9z"))
	f.Fuzz(func(t *testing.T, b []byte) { checkTake(t, b) })
}

// FuzzOp: any operations, right or not.
func FuzzOp(f *testing.F) {
	f.Add(5, 7, 1287, 0, "a", 8, 256, 1, "ab")
	f.Add(maxN, 255, maxNode, maxNode, "\u00e9", -1, math.MinInt, math.MaxInt, "\xff")
	f.Fuzz(func(t *testing.T, n, r, node, to int, s string, q, other, up int, u string) {
		a := api.Op{At: api.Stamp{N: n, R: r}, Node: node, To: to, Name: s}
		checkOp(t, a)
		for _, b := range []api.Op{
			a,
			{At: a.At, Node: node, To: to, Name: u},
			{At: a.At, Node: node, To: up, Name: u},
			{At: a.At, Node: other, To: up, Name: u},
			{At: api.Stamp{N: n, R: q}, Node: other, To: up, Name: u},
			{At: api.Stamp{N: q, R: n}, Node: other, To: up, Name: u},
		} {
			checkOp(t, b)
			checkPair(t, a, b)
		}
	})
}
