package oplog

import (
	"cmp"
	"fmt"
	"math"
	"slices"
	"strings"
	"testing"
	"unicode/utf8"
	"unsafe"

	"holt/api"
	"holt/tree"
)

const (
	maxN    = 16777215
	maxNode = 4294967295
)

// words is a log as the chapter's words say it: how many operations there may be, and those that there are, each once, as they came.
type words struct {
	most int
	ops  []api.Op
}

// all is all operations in order: sorted five times, so that the first key is sorted by last.
func (w *words) all() []api.Op {
	l := slices.Clone(w.ops)
	slices.SortStableFunc(l, func(a, b api.Op) int { return slices.Compare([]byte(a.Name), []byte(b.Name)) })
	for _, key := range []func(api.Op) int{
		func(o api.Op) int { return o.To },
		func(o api.Op) int { return o.Node },
		func(o api.Op) int { return o.At.R },
		func(o api.Op) int { return o.At.N },
	} {
		slices.SortStableFunc(l, func(a, b api.Op) int { return cmp.Compare(key(a), key(b)) })
	}
	return l
}

func (w *words) top() (n int) {
	for _, o := range w.ops {
		n = max(n, o.At.N)
	}
	return n
}

func (w *words) put(ops []api.Op) (news int, changes []api.Change, e api.Errno) {
	var fresh []api.Op
	for _, o := range ops {
		if !isRight(o) {
			return 0, nil, api.ErrArg
		}
		if !slices.Contains(w.ops, o) && !slices.Contains(fresh, o) {
			fresh = append(fresh, o)
		}
	}
	if len(fresh) > 0 && len(w.ops)+len(fresh) > w.most {
		return 0, nil, api.ErrLogFull
	}
	was := grow(w.all())
	w.ops = append(slices.Clone(w.ops), fresh...)
	return len(fresh), differ(was, grow(w.all())), api.OK
}

func (w *words) clone() *words { return &words{most: w.most, ops: slices.Clone(w.ops)} }

// place is a tree as chapter 7's words say it: where nodes are.
type place map[int]api.Spot

func (p place) known(n int) bool { return n == 0 || n == 1 || p[n].In }

func (p place) above(a, b int) bool {
	return p.known(b) && (a == b || p[b].In && p.above(a, p[b].To))
}

// grow is where nodes are when these operations were applied, one behind the other, to nothing.
func grow(ops []api.Op) place {
	p := place{}
	for _, o := range ops {
		if p.known(o.To) && !p.above(o.Node, o.To) {
			p[o.Node] = api.Spot{In: true, To: o.To, Name: o.Name}
		}
	}
	return p
}

// differ is for each node that is elsewhere, from the least on, the change.
func differ(was, now place) (l []api.Change) {
	var nodes []int
	for n := range was {
		nodes = append(nodes, n)
	}
	for n := range now {
		nodes = append(nodes, n)
	}
	slices.Sort(nodes)
	for _, n := range slices.Compact(nodes) {
		if was[n] != now[n] {
			l = append(l, api.Change{Node: n, Old: was[n], New: now[n]})
		}
	}
	return l
}

// isName tells whether a text is a name, as chapter 3's words say it.
func isName(s string) bool {
	wrong := func(r rune) bool { return r < 32 || r == 127 || r == '/' }
	return len(s) >= 1 && len(s) <= 20 && utf8.ValidString(s) && !strings.ContainsFunc(s, wrong)
}

// isRight tells whether an operation is, as the words of chapters 3 to 5 say it.
func isRight(o api.Op) bool {
	node := func(n int) bool { return n >= 256 && n <= maxNode }
	at := o.At.N >= 1 && o.At.N <= maxN && o.At.R >= 0 && o.At.R <= 255
	return at && node(o.Node) && (o.To == 0 || o.To == 1 || node(o.To)) && isName(o.Name)
}

// at is an operation.
func at(n, r, node, to int, name string) api.Op {
	return api.Op{At: api.Stamp{N: n, R: r}, Node: node, To: to, Name: name}
}

// in is a spot.
func in(to int, name string) api.Spot { return api.Spot{In: true, To: to, Name: name} }

// some are operations in order: at stamps that differ by both numbers, and at one stamp; that make, move, rename, and put into the trash; some do nothing, and some do so only while another one isn't there.
func some() []api.Op {
	return []api.Op{
		at(1, 0, 256, 0, "a"), at(1, 1, 257, 256, "b"), at(2, 0, 258, 257, "c"), at(2, 0, 258, 257, "d"),
		at(2, 7, 256, 258, "e"), at(3, 1, 257, 0, "b"), at(3, 1, 258, 1, "c"), at(5, 0, 256, 257, "f"),
		at(5, 255, 257, 256, "g"), at(9, 0, maxNode, 300, "h"), at(9, 1, 258, 256, "c"), at(maxN, 255, 258, 0, "a"),
	}
}

// wrongs are operations of which each would be a right one but for one field; and the one with zeros.
func wrongs() []api.Op {
	l := []api.Op{{}, at(1, 0, 0, 1, "a"), at(1, 0, 1, 0, "a"), at(1, 0, 0, 0, "a")}
	for _, n := range []int{math.MinInt, -1, 0, maxN + 1, math.MaxInt} {
		l = append(l, at(n, 0, 256, 0, "a"))
	}
	for _, r := range []int{math.MinInt, -1, 256, math.MaxInt} {
		l = append(l, at(1, r, 256, 0, "a"))
	}
	for _, n := range []int{math.MinInt, -256, -1, 2, 255, maxNode + 1, math.MaxInt} {
		l = append(l, at(1, 0, n, 0, "a"), at(1, 0, 256, n, "a"))
	}
	for _, s := range []string{"", "/", "a/b", "\x00", "a\n", "\x7f", "\xff", strings.Repeat("n", 21)} {
		l = append(l, at(1, 0, 256, 0, s))
	}
	return l
}

// near are operations that differ from one by one field.
func near(o api.Op) []api.Op {
	l := []api.Op{o, o, o, o, o, o, o, o, o, o, o}
	l[0].At.N--
	l[1].At.N++
	l[2].At.R--
	l[3].At.R++
	l[4].Node--
	l[5].Node++
	l[6].To--
	l[7].To++
	l[8].Name += "a"
	l[9].Name = ""
	l[10].Name = strings.ToUpper(o.Name)
	return l
}

// check holds all that a log tells against the words.
func check(t *testing.T, l *Log, w *words) {
	t.Helper()
	all := w.all()
	if got := l.All(); !slices.Equal(got, all) {
		t.Errorf("All: %v, not %v", got, all)
	}
	if got := l.Top(); got != w.top() {
		t.Errorf("Top: %v, not %v", got, w.top())
	}
	asked := slices.Concat(all, some(), wrongs())
	for _, o := range all {
		asked = append(asked, near(o)...)
	}
	for _, o := range asked {
		if got := l.Has(o); got != slices.Contains(all, o) {
			t.Errorf("Has(%v) = %v in %v", o, got, all)
		}
	}
	checkTree(t, l.Tree(), all)
}

// checkTree tells whether just these operations were applied to a tree, in their order: it undoes them, one by one.
func checkTree(t *testing.T, x *tree.Tree, ops []api.Op) {
	t.Helper()
	for n := len(ops); n >= 0; n-- {
		checkSpots(t, x, grow(ops[:n]))
		if x.Undo() != (n > 0) {
			t.Fatalf("%v of %v operations weren't remembered, or more", n, len(ops))
		}
	}
}

// checkSpots holds a tree's nodes against where they should be.
func checkSpots(t *testing.T, x *tree.Tree, p place) {
	t.Helper()
	l := x.All()
	if len(l) != len(p) {
		t.Errorf("%v, not %v", l, p)
	}
	for _, k := range l {
		if in(k.To, k.Name) != p[k.Node] || x.Spot(k.Node) != p[k.Node] {
			t.Errorf("%v is at %v, not %v", k.Node, k, p[k.Node])
		}
	}
}

// put puts into both, and holds what is told against the words, and what was handed in against what it was.
func put(t *testing.T, l *Log, w *words, ops ...api.Op) {
	t.Helper()
	kept := slices.Clone(ops)
	news, changes, e := w.put(ops)
	n, d, f := l.Put(ops)
	if n != news || !slices.Equal(d, changes) || f != e {
		t.Errorf("Put(%v) = %v, %v, %v, not %v, %v, %v", ops, n, d, f, news, changes, e)
	}
	if !slices.Equal(ops, kept) {
		t.Errorf("%v became %v", kept, ops)
	}
}

// with is a log into which operations were put, and that by the words.
func with(t *testing.T, most int, ops ...api.Op) (*Log, *words) {
	t.Helper()
	l, w := New(most), &words{most: most}
	put(t, l, w, ops...)
	return l, w
}

func TestExample(t *testing.T) {
	l := New(2)
	if n, c, e := l.Put([]api.Op{at(2, 0, 257, 256, "b")}); n != 1 || len(c) != 0 || e != api.OK || len(l.Tree().All()) != 0 {
		t.Error("the first one did something", n, c, e)
	}
	n, c, e := l.Put([]api.Op{at(1, 0, 256, 0, "a")})
	if want := []api.Change{{Node: 256, New: in(0, "a")}, {Node: 257, New: in(256, "b")}}; n != 1 || !slices.Equal(c, want) || e != api.OK {
		t.Error("both don't do something", n, c, e)
	}
	if n, e := l.Tree().Find("/a/b"); n != 257 || e != api.OK {
		t.Error(n, e)
	}
	if all := l.All(); !slices.Equal(all, []api.Op{at(1, 0, 256, 0, "a"), at(2, 0, 257, 256, "b")}) {
		t.Error(all)
	}
}

// P8.1: there is no log of less than no operations; any other one has none, and two are two.
func TestNew(t *testing.T) {
	for _, most := range []int{math.MinInt, math.MinInt + 1, -1 << 32, -2, -1} {
		if New(most) != nil {
			t.Errorf("New(%v) isn't nil", most)
		}
	}
	for _, most := range []int{0, 1, 2, 64, 1 << 31, 1 << 32, math.MaxInt - 1, math.MaxInt} {
		l, w := New(most), &words{most: most}
		if l == nil {
			t.Fatalf("New(%v) is nil", most)
		}
		check(t, l, w)
		other := New(most)
		put(t, other, w.clone(), some()...)
		check(t, l, w)
	}
}

// P8.1, P8.2: so many as may be are taken, and one more is too much, at once and one by one; it's the first error that tells.
func TestMost(t *testing.T) {
	all := some()
	for most := range len(all) + 3 {
		l, w := with(t, most, all...)
		check(t, l, w)
		if want := most >= len(all); (len(l.All()) == len(all)) != want || !want && len(l.All()) != 0 {
			t.Errorf("of %v, %v may be, and %v are", len(all), most, len(l.All()))
		}
		l, w = with(t, most)
		for i, o := range all {
			n, _, e := l.Clone().Put([]api.Op{o})
			if i < most && (n != 1 || e != api.OK) || i >= most && (n != 0 || e != api.ErrLogFull) {
				t.Errorf("%v of %v: %v, %v", i, most, n, e)
			}
			put(t, l, w, o)
		}
		check(t, l, w)
		if n, c, e := l.Put([]api.Op{{}, at(7, 7, 300, 0, "z"), at(8, 7, 300, 0, "z")}); n != 0 || len(c) != 0 || e != api.ErrArg {
			t.Errorf("what isn't right, into a log of %v: %v, %v, %v", most, n, c, e)
		}
		check(t, l, w)
	}
}

// P8.2: what is there already, and what comes twice, is never too much; of the others each counts once; with the error nothing is changed.
func TestFull(t *testing.T) {
	a, b, c, d := at(1, 0, 256, 0, "a"), at(2, 0, 257, 256, "b"), at(3, 0, 258, 257, "c"), at(4, 0, 259, 0, "d")
	for i, x := range []struct {
		ops  []api.Op
		news int
		e    api.Errno
	}{
		{[]api.Op{c, c, c, c, c}, 1, api.OK},
		{[]api.Op{d, b}, 0, api.ErrLogFull}, // of two there is room for one
		{[]api.Op{b, d}, 0, api.ErrLogFull},
		{[]api.Op{c, d, c, b, c}, 0, api.ErrLogFull},
		{[]api.Op{a, a, c, a, c}, 1, api.OK}, // now it is full
		{[]api.Op{b}, 0, api.ErrLogFull},
		{[]api.Op{d}, 0, api.ErrLogFull},
		{[]api.Op{a, c, d}, 0, api.ErrLogFull},
		{[]api.Op{b, c, a}, 0, api.ErrLogFull},
		{[]api.Op{c, a, c, a, c, a}, 0, api.OK},
		{[]api.Op{a}, 0, api.OK},
		{[]api.Op{c}, 0, api.OK},
		{nil, 0, api.OK},
		{[]api.Op{}, 0, api.OK},
	} {
		l, w := with(t, 2)
		if i > 0 {
			put(t, l, w, c)
		}
		if i > 4 {
			put(t, l, w, a)
		}
		before := w.clone()
		if n, _, e := l.Clone().Put(x.ops); n != x.news || e != x.e {
			t.Errorf("%v: %v, %v", i, n, e)
		}
		check(t, l, before)
		put(t, l, w, x.ops...)
		check(t, l, w)
		if x.e != api.OK {
			check(t, l, before)
		}
	}
}

// P8.2: a log that may have no operation takes none, and no operation is always taken.
func TestNone(t *testing.T) {
	for _, most := range []int{0, 1, len(some()), math.MaxInt} {
		for _, ops := range [][]api.Op{nil, some()} {
			l, w := with(t, most, ops...)
			for _, none := range [][]api.Op{nil, {}, some()[:0]} {
				if n, c, e := l.Put(none); n != 0 || len(c) != 0 || e != api.OK {
					t.Errorf("nothing, into a log of %v: %v, %v, %v", most, n, c, e)
				}
				check(t, l, w)
			}
		}
	}
	if n, c, e := New(0).Put(some()[:1]); n != 0 || len(c) != 0 || e != api.ErrLogFull {
		t.Error(n, c, e)
	}
}

// P8.2: one that isn't right, at each place among right ones that are new, or there, or both: nothing is changed, and nothing else told, be the log full or not.
func TestWrong(t *testing.T) {
	for _, o := range wrongs() {
		if isRight(o) {
			t.Fatalf("%v is right", o)
		}
		for _, have := range [][]api.Op{nil, some()[3:7], some()} {
			for _, most := range []int{len(have), len(have) + 1, 100} {
				l, _ := with(t, most, have...)
				for _, ops := range [][]api.Op{nil, some()[:1], some()[2:5], {at(4, 0, 300, 0, "x"), at(4, 1, 301, 0, "x")}} {
					for i := range len(ops) + 1 {
						batch := slices.Insert(slices.Clone(ops), i, o)
						if n, c, e := l.Put(batch); n != 0 || len(c) != 0 || e != api.ErrArg {
							t.Errorf("Put(%v) = %v, %v, %v", batch, n, c, e)
						}
					}
				}
				if !slices.Equal(l.All(), have) || l.Has(o) {
					t.Errorf("behind %v: %v", o, l.All())
				}
			}
		}
	}
	l, w := with(t, 100, some()[3:7]...)
	for _, o := range wrongs() {
		put(t, l, w, append(some(), o)...)
		check(t, l, w)
	}
}

// P8.2: right operations at the edges of all their fields are taken.
func TestEdges(t *testing.T) {
	l, w := with(t, math.MaxInt)
	for _, s := range []api.Stamp{{N: 1}, {N: 1, R: 255}, {N: maxN}, {N: maxN, R: 255}} {
		for _, node := range []int{256, maxNode} {
			for _, to := range []int{0, 1, 256, maxNode} {
				for _, name := range []string{"a", " ", "\ufffd", strings.Repeat("n", 20)} {
					o := api.Op{At: s, Node: node, To: to, Name: name}
					if n, _, e := l.Clone().Put([]api.Op{o}); n != 1 || e != api.OK {
						t.Errorf("%v: %v, %v", o, n, e)
					}
					put(t, l, w, o)
				}
			}
		}
	}
	check(t, l, w)
}

// P8.2: what each Put tells is written out here.
func TestPut(t *testing.T) {
	l := New(20)
	for i, x := range []struct {
		ops     []api.Op
		news    int
		changes []api.Change
	}{
		{[]api.Op{at(10, 0, 256, 0, "a")}, 1, []api.Change{{Node: 256, New: in(0, "a")}}},
		{[]api.Op{at(10, 0, 256, 0, "a")}, 0, nil},                                           // it is there
		{[]api.Op{at(5, 0, 256, 0, "z")}, 1, nil},                                            // ahead of all; what is later stays
		{[]api.Op{at(7, 0, 257, 256, "b")}, 1, []api.Change{{Node: 257, New: in(256, "b")}}}, // between
		{[]api.Op{at(20, 0, 256, 257, "c")}, 1, nil},                                         // behind all; it would be below itself
		{[]api.Op{at(20, 0, 256, 0, "a")}, 1, nil},                                           // at that stamp, to where it is
		{[]api.Op{at(15, 0, 256, 1, "a"), at(14, 0, 256, 1, "t")}, 2, nil},                   // away, and back by what is later
		{[]api.Op{at(19, 0, 257, 0, "b")}, 1, []api.Change{{Node: 256, Old: in(0, "a"), New: in(257, "c")}, {Node: 257, Old: in(256, "b"), New: in(0, "b")}}},                        // 256 isn't named, and what did nothing does
		{[]api.Op{at(19, 1, 257, 1, "b")}, 1, []api.Change{{Node: 257, Old: in(0, "b"), New: in(1, "b")}}},                                                                           // what is below it goes along, at its spot
		{[]api.Op{at(30, 0, 300, 256, "e"), at(25, 0, 301, 300, "e"), at(31, 0, 299, 300, "e")}, 3, []api.Change{{Node: 299, New: in(300, "e")}, {Node: 300, New: in(256, "e")}}},    // 301 was too early
		{[]api.Op{at(24, 0, 300, 0, "f")}, 1, []api.Change{{Node: 301, New: in(300, "e")}}},                                                                                          // 301 alone; 300 is where it was
		{[]api.Op{at(21, 0, 299, 299, "f"), at(22, 0, 298, 297, "f")}, 2, nil},                                                                                                       // what does nothing
		{[]api.Op{at(33, 0, 301, 0, "g"), at(32, 0, 301, 0, "h"), at(10, 0, 256, 0, "a"), at(33, 0, 301, 0, "g")}, 2, []api.Change{{Node: 301, Old: in(300, "e"), New: in(0, "g")}}}, // one change of two moves
	} {
		n, c, e := l.Put(x.ops)
		if n != x.news || !slices.Equal(c, x.changes) || e != api.OK {
			t.Errorf("%v: Put(%v) = %v, %v, %v", i, x.ops, n, c, e)
		}
	}
	want := []api.Kid{{To: 0, Name: "g", Node: 301}, {To: 1, Name: "b", Node: 257}, {To: 256, Name: "e", Node: 300}, {To: 257, Name: "c", Node: 256}, {To: 300, Name: "e", Node: 299}}
	if all := l.Tree().All(); !slices.Equal(all, want) {
		t.Error(all)
	}
	if l.Top() != 33 || len(l.All()) != 17 {
		t.Error(l.Top(), l.All())
	}
}

// P8.2: an early operation lets a later one do what it couldn't, keeps another one from it, or plays no part; what is told is written out here.
func TestEarly(t *testing.T) {
	l, w := with(t, 9, at(1, 0, 256, 0, "a"), at(3, 0, 257, 256, "b"), at(5, 0, 256, 257, "c"), at(6, 0, 258, 256, "d"))
	put(t, l, w, at(2, 0, 257, 1, "t")) // the one at 3 puts it where it was
	if n, c, e := l.Put([]api.Op{at(4, 0, 257, 0, "t")}); n != 1 || !slices.Equal(c, []api.Change{{Node: 256, Old: in(0, "a"), New: in(257, "c")}, {Node: 257, Old: in(256, "b"), New: in(0, "t")}}) || e != api.OK {
		t.Error("the one at 5 doesn't do what it may now", n, c, e)
	}
	l, _ = with(t, 9, at(1, 0, 256, 0, "a"), at(1, 1, 257, 0, "b"), at(5, 0, 256, 257, "c"))
	if n, c, e := l.Put([]api.Op{at(4, 0, 257, 256, "d")}); n != 1 || !slices.Equal(c, []api.Change{{Node: 256, Old: in(257, "c"), New: in(0, "a")}, {Node: 257, Old: in(0, "b"), New: in(256, "d")}}) || e != api.OK {
		t.Error("the one at 5 does what it may no more", n, c, e)
	}
	l, _ = with(t, 9, at(5, 0, 257, 256, "b"), at(6, 0, 256, 0, "a"))
	if n, c, e := l.Put([]api.Op{at(4, 0, 256, 1, "t")}); n != 1 || !slices.Equal(c, []api.Change{{Node: 257, New: in(256, "b")}}) || e != api.OK {
		t.Error("the one at 5 finds nothing to be below", n, c, e)
	}
}

// P8.1, P8.2: one operation, and two, that come when all others are there, wherever they belong; again, and in one batch with all others.
func TestPlaces(t *testing.T) {
	all := some()
	if w := (&words{ops: all}); !slices.Equal(w.all(), all) {
		t.Fatal("they don't stand in order")
	}
	for i := range all {
		for j := range all {
			var have, late []api.Op
			for k, o := range all {
				if k == i || k == j {
					late = append(late, o)
				} else {
					have = append(have, o)
				}
			}
			for _, turn := range [][]api.Op{late, {late[len(late)-1], late[0]}, append(slices.Clone(late), late...), append(slices.Clone(late), all...)} {
				l, w := with(t, len(all), have...)
				check(t, l, w)
				put(t, l, w, turn...)
				check(t, l, w)
				put(t, l, w, turn...)
				if !slices.Equal(l.All(), all) {
					t.Errorf("%v behind %v: %v", turn, have, l.All())
				}
			}
		}
	}
}

// P8.1: operations at one stamp stand by nodes, then by what they are put below, then by names, byte by byte; all of them are there, and the last one of a node tells where it is.
func TestOneStamp(t *testing.T) {
	var sorted []api.Op
	for _, s := range []api.Stamp{{N: 1, R: 1}, {N: 1, R: 10}, {N: 2, R: 0}, {N: 10, R: 0}} {
		for _, node := range []int{256, 257, 1000, maxNode} {
			for _, to := range []int{0, 1, 256, 1000} {
				for _, name := range []string{"A", "B", "a", "aa", "b", "\u00e9", "\U0001f333"} {
					sorted = append(sorted, api.Op{At: s, Node: node, To: to, Name: name})
				}
			}
		}
	}
	back := slices.Clone(sorted)
	slices.Reverse(back)
	for step, ops := range map[int][]api.Op{1: sorted, 2: back, 3: back, 5: sorted, 7: back, 100: sorted} {
		l := New(len(ops))
		for i := range step { // every step-th one, from each place on
			var part []api.Op
			for ; i < len(ops); i += step {
				part = append(part, ops[i])
			}
			if n, _, e := l.Put(part); n != len(part) || e != api.OK {
				t.Error(n, e)
			}
		}
		if !slices.Equal(l.All(), sorted) || l.Top() != 10 {
			t.Errorf("step %v: %v", step, l.All())
		}
		checkSpots(t, l.Tree(), grow(sorted))
	}
}

// P8.1: all that a log tells with no operation, with one, and with each more; behind a Put that is refused it tells the same.
func TestTold(t *testing.T) {
	all := some()
	for size := range len(all) + 1 {
		l, w := with(t, size, all[:size]...)
		for range 2 {
			check(t, l, w)
			want := 0
			if size > 0 {
				want = all[size-1].At.N
			}
			if l.Top() != want || len(l.All()) != size {
				t.Errorf("%v: %v, %v", size, l.Top(), l.All())
			}
			for i, o := range all {
				if l.Has(o) != (i < size) {
					t.Errorf("%v of %v: %v", i, size, l.Has(o))
				}
			}
			put(t, l, w, at(1, 0, 256, 0, "0"), at(maxN, 255, maxNode, 0, "z"))
			put(t, l, w, at(1, 0, 256, 0, "0"), at(0, 0, 256, 0, "0"))
		}
	}
}

// P8.3: a clone tells the same, and may have as many; what is put into one isn't put into the other one, whichever it is, wherever it belongs, and a clone of a clone is one too.
func TestClone(t *testing.T) {
	early, late := at(1, 0, 256, 0, "0"), at(maxN, 255, maxNode, 0, "z")
	for size := range len(some()) + 1 {
		l, w := with(t, size+2, some()[:size]...)
		c, v := l.Clone(), w.clone()
		d, u := c.Clone(), v.clone()
		check(t, c, v)
		put(t, l, w, early, at(4, 0, 300, 256, "x"))
		check(t, c, v)
		put(t, c, v, late, at(4, 0, 300, 257, "y"))
		check(t, l, w)
		check(t, c, v)
		check(t, d, u)
		for _, o := range []api.Op{early, late, at(4, 1, 256, 0, "w")} {
			put(t, l, w, o)
			put(t, c, v, o)
			put(t, d, u, o)
		}
		check(t, l, w)
		check(t, c, v)
		check(t, d, u)
	}
}

// P8.3: two that go on from one list, each one behind the end, where memory might be shared.
func TestCloneGrows(t *testing.T) {
	l, w := with(t, 200)
	for i := range 50 {
		put(t, l, w, at(2*i+2, 0, 256+i, 0, "a"))
		c, v := l.Clone(), w.clone()
		put(t, c, v, at(2*i+3, 0, 400, 0, "c"), at(2*i+4, 0, 401, 0, "c"))
		put(t, l, w, at(2*i+3, 1, 500, 0, "l"))
		if !slices.Equal(c.All(), v.all()) || !slices.Equal(l.All(), w.all()) {
			t.Fatalf("%v: %v, %v", i, c.All(), l.All())
		}
		checkSpots(t, c.Tree(), grow(v.all()))
		checkSpots(t, l.Tree(), grow(w.all()))
	}
}

// rows calls f with each order of a list.
func rows(l []api.Op, f func([]api.Op)) {
	var turn func(n int)
	turn = func(n int) {
		if n == len(l) {
			f(l)
			return
		}
		for i := n; i < len(l); i++ {
			l[n], l[i] = l[i], l[n]
			turn(n + 1)
			l[n], l[i] = l[i], l[n]
		}
	}
	turn(0)
}

// P8.4: each order of some operations, in each way to part it, once, and with all that was there put again: the log is one, and so is the tree.
func TestOrders(t *testing.T) {
	for _, ops := range [][]api.Op{some()[:5], some()[1:6], some()[4:9], {at(1, 0, 256, 0, "a"), at(1, 1, 257, 0, "b"), at(2, 0, 256, 257, "c"), at(2, 1, 257, 256, "d"), at(3, 0, 256, 0, "e")}} {
		want := &words{most: len(ops), ops: slices.Clone(ops)}
		rows(slices.Clone(ops), func(row []api.Op) {
			for cuts := range 1 << (len(row) - 1) {
				for _, again := range []bool{false, true} {
					l := New(len(row))
					from := 0
					for i := range row {
						if cuts>>i&1 == 1 || i == len(row)-1 {
							l.Put(row[from : i+1])
							if from = i + 1; again {
								l.Put(row[:from])
							}
						}
					}
					if !slices.Equal(l.All(), ops) || l.Top() != want.top() {
						t.Errorf("%v, cut by %b: %v", row, cuts, l.All())
					}
					checkTree(t, l.Tree(), ops)
				}
			}
		})
	}
}

// moves are all operations of a few stamps and nodes, of which one is never put anywhere.
func moves(stamps, nodes int) (l []api.Op) {
	for n := range stamps {
		for node := range nodes {
			for _, to := range append([]int{0, 300}, []int{256, 257, 258}[:nodes]...) {
				l = append(l, at(1+n, 0, 256+node, to, "a"))
			}
		}
	}
	return l
}

// P8.1 to P8.4: each row of up to so many operations, each put in by itself, and in pairs, and all that is told of it.
func TestEachRow(t *testing.T) {
	for _, c := range []struct{ long, stamps, nodes int }{{3, 3, 2}, {2, 2, 3}} {
		t.Run(fmt.Sprint(c), func(t *testing.T) {
			all := moves(c.stamps, c.nodes)
			var row func(l *Log, w *words, left int)
			row = func(l *Log, w *words, left int) {
				for i, o := range all {
					x, v := l.Clone(), w.clone()
					put(t, x, v, o)
					if !slices.Equal(x.All(), v.all()) {
						t.Fatal(x.All())
					}
					checkTree(t, x.Tree(), v.all())
					pair, u := l.Clone(), w.clone()
					put(t, pair, u, all[(i*7+left)%len(all)], o)
					checkTree(t, pair.Tree(), u.all())
					if left > 1 {
						row(x, v, left-1)
					}
				}
			}
			row(New(c.long), &words{most: c.long}, c.long)
		})
	}
}

// chance is bytes that are picked by a number that is turned each time.
func chance(seed, long int) []byte {
	b := make([]byte, long)
	x := uint32(seed*2654435761 + 1)
	for i := range b {
		x = x*1664525 + 1013904223
		b[i] = byte(x >> 24)
	}
	return b
}

// P8.1 to P8.4: long rows of batches and clonings.
func TestLongRows(t *testing.T) {
	for seed := range 60 {
		play(t, chance(seed, 400))
	}
}

// play takes bytes for what is done to some logs, one behind the other, and holds all of them against the words, again and again.
func play(t *testing.T, b []byte) {
	t.Helper()
	most := 40
	if len(b) > 0 {
		most = int(b[0] % 80)
	}
	l, w := with(t, most)
	other, others := with(t, most)
	var batch, came []api.Op
	for ; len(b) >= 4; b = b[4:] {
		switch b[0] % 16 {
		case 0:
			l, w, other, others = other, others, l, w
		case 1:
			other, others = l.Clone(), w.clone()
		case 2:
			batch = append(batch, came[:int(b[1])%(len(came)+1)]...)
		case 3, 4, 5, 6, 7:
			put(t, l, w, batch...)
			came, batch = append(came, batch...), nil
			checkSpots(t, l.Tree(), grow(w.all()))
		default:
			node := []int{256, 257, 258, 259, 260, 261, maxNode}[b[1]%7]
			to := []int{0, 1, 256, 257, 258, 259, 260, 261, 300, maxNode}[b[2]%10]
			if b[1] == 255 {
				to = 2 // which isn't right
			}
			batch = append(batch, at(1+int(b[3]%30), int(b[3]>>6), node, to, string(rune('a'+b[2]%3))))
		}
	}
	put(t, l, w, batch...)
	check(t, l, w)
	check(t, other, others)
	// All of one, back to front, is the same as it came.
	again, all := New(most), w.all()
	for _, o := range slices.Backward(all) {
		again.Put([]api.Op{o})
	}
	check(t, again, w)
}

// P8.1, P8.2: a way of 2^16 nodes, that came back to front; then its first node comes, and all of it is there; then it goes into the trash.
func TestDeep(t *testing.T) {
	const deep = 1 << 16
	l := New(deep + 2)
	var ops []api.Op
	for n := deep - 1; n > 0; n-- {
		ops = append(ops, at(n+1, 0, 256+n, 255+n, "a"))
	}
	if n, c, e := l.Put(ops); n != deep-1 || len(c) != 0 || e != api.OK {
		t.Fatal(n, len(c), e)
	}
	n, c, e := l.Put([]api.Op{at(1, 0, 256, 0, "a")})
	if n != 1 || len(c) != deep || e != api.OK {
		t.Fatal(n, len(c), e)
	}
	for i, x := range c {
		if want := (api.Change{Node: 256 + i, New: in(max(255+i, 256)*min(i, 1), "a")}); x != want {
			t.Fatalf("%v, not %v", x, want)
		}
	}
	if n, e := l.Tree().Find(strings.Repeat("/a", 200)); n != 455 || e != api.OK {
		t.Error(n, e)
	}
	if n, c, e := l.Put([]api.Op{at(deep+1, 0, 256, 1, "a")}); n != 1 || !slices.Equal(c, []api.Change{{Node: 256, Old: in(0, "a"), New: in(1, "a")}}) || e != api.OK {
		t.Error(n, c, e)
	}
	if n, c, e := l.Put([]api.Op{at(deep+1, 1, 256, 255+deep, "a")}); n != 1 || len(c) != 0 || e != api.OK {
		t.Error(n, c, e)
	}
	if n, c, e := l.Put([]api.Op{at(deep+1, 2, 256, 0, "a")}); n != 0 || len(c) != 0 || e != api.ErrLogFull {
		t.Error(n, c, e)
	}
	if l.Top() != deep+1 || len(l.All()) != deep+2 || len(l.Tree().All()) != deep {
		t.Error(l.Top())
	}
}

// P8.1, R5: what is done to a tree that was told isn't done to the log, nor to another tree, and what is put later isn't done to a tree that was told.
func TestTreesAreOwn(t *testing.T) {
	for size := range len(some()) + 1 {
		l, w := with(t, 100, some()[:size]...)
		kept := w.all()
		first, second, third := l.Tree(), l.Tree(), l.Tree()
		for range size / 2 {
			first.Undo()
		}
		first.Apply(at(1, 0, 300, 0, "z"))
		first.Apply(at(1, 0, 256, 1, "z"))
		for second.Undo() {
		}
		check(t, l, w)
		put(t, l, w, at(1, 0, 301, 0, "z"), at(6, 0, 257, 0, "z"), at(maxN, 255, 256, 1, "z"))
		check(t, l, w)
		checkTree(t, third, kept)
	}
}

// R5: who changes a list that was handed in, or answered, and all that lies behind its end, changes nothing else: not the log, not its clone, not another answer.
func TestListsAreOwn(t *testing.T) {
	spoil := func(l []api.Op) {
		l = l[:cap(l)]
		for i := range l {
			l[i] = at(4, 4, 300, 0, "spoiled")
		}
	}
	all := some()
	l, w := with(t, 100)
	for _, cut := range [][]api.Op{all[6:9], all[1:3], all[9:], all[:1], all} {
		batch := slices.Clone(cut)
		slices.Reverse(batch)
		put(t, l, w, batch...)
		c := l.Clone()
		spoil(batch)
		check(t, l, w)
		first, second := l.All(), l.All()
		kept := slices.Clone(second)
		spoil(first)
		if !slices.Equal(second, kept) {
			t.Errorf("%v became %v", kept, second)
		}
		spoil(second)
		spoil(c.All())
		check(t, l, w)
		check(t, c, w)
	}
}

// R5: what is answered isn't changed by what is done later, and changes of one Put aren't those of another.
func TestAnswersStay(t *testing.T) {
	l := New(100)
	_, first, _ := l.Put(some()[3:7])
	all, kept := l.All(), slices.Clone(first)
	have := slices.Clone(all)
	_, second, _ := l.Put(some()[:3])
	_, third, _ := l.Put(some())
	if !slices.Equal(all, have) || !slices.Equal(first, kept) {
		t.Errorf("%v, %v became %v, %v", have, kept, all, first)
	}
	kept = slices.Clone(third)
	for _, c := range [][]api.Change{first[:cap(first)], second[:cap(second)]} {
		for i := range c {
			c[i] = api.Change{Node: 300}
		}
	}
	if !slices.Equal(third, kept) {
		t.Errorf("%v became %v", kept, third)
	}
	check(t, l, &words{most: 100, ops: some()})
}

// R5: of a name that is a piece of a longer text nothing is kept but the name.
func TestNamesAreOwn(t *testing.T) {
	long := strings.Repeat("long ", 1000) + "name"
	s := long[5000:]
	l := New(1)
	_, c, _ := l.Put([]api.Op{at(1, 0, 256, 0, s)})
	for _, got := range []string{l.All()[0].Name, l.Tree().Spot(256).Name, c[0].New.Name} {
		if got != "name" || unsafe.StringData(got) == unsafe.StringData(s) {
			t.Errorf("%q is kept, with all that is ahead of it", got)
		}
	}
}

// R6: two logs to which the same was done tell the same, whatever order their maps have.
func TestAgain(t *testing.T) {
	var ops []api.Op
	for i := range 200 {
		ops = append(ops, at(1+i*7%50, i%3, 256+i*13%60, []int{0, 1, 256, 257, 256 + i%60}[i%5], []string{"a", "b"}[i%2]))
	}
	tell := func() []api.Change {
		l := New(len(ops))
		var told []api.Change
		for i := 0; i < len(ops); i += 20 {
			_, c, _ := l.Put(ops[i : i+20])
			told = append(told, c...)
		}
		return told
	}
	first := tell()
	for range 30 {
		if !slices.Equal(tell(), first) {
			t.Fatal("done again, it is another answer")
		}
	}
	if len(first) == 0 {
		t.Error("nothing changed")
	}
}

// All promises, at whatever is done.
func FuzzLog(f *testing.F) {
	f.Add([]byte{})
	f.Add(chance(1, 100))
	f.Add(chance(2, 400))
	f.Fuzz(func(t *testing.T, b []byte) { play(t, b[:min(len(b), 400)]) })
}

// All promises, of any one operation that comes to others, alone and among them.
func FuzzOp(f *testing.F) {
	f.Add(5, 7, 1287, 0, "a")
	f.Add(1, 0, 256, 258, "b")
	f.Add(0, 256, 255, 2, "a/b")
	f.Fuzz(func(t *testing.T, n, r, node, to int, name string) {
		o := at(n, r, node, to, name)
		for size := range len(some()) + 1 {
			for _, most := range []int{size, 100} {
				l, w := with(t, most, some()[:size]...)
				put(t, l, w, o)
				check(t, l, w)
				put(t, l, w, append(some(), o, o)...)
				check(t, l, w)
			}
		}
	})
}
