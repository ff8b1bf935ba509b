package tree

import (
	"cmp"
	"fmt"
	"math"
	"slices"
	"strings"
	"testing"
	"unicode/utf8"
	"unsafe"

	"holt/api"
)

const (
	maxN    = 16777215
	maxNode = 4294967295
)

// words is a tree as the chapter's words say it: where all nodes were ahead of each right operation that is remembered, and where they are now, in any order.
type words struct {
	past [][]api.Kid
	now  []api.Kid
}

// spot is where a node is.
func (w *words) spot(n int) api.Spot {
	for _, k := range w.now {
		if k.Node == n {
			return api.Spot{In: true, To: k.To, Name: k.Name}
		}
	}
	return api.Spot{}
}

func (w *words) known(n int) bool { return n == 0 || n == 1 || w.spot(n).In }

// above goes up by itself, from one node to the next.
func (w *words) above(a, b int) bool {
	s := w.spot(b)
	return w.known(b) && (a == b || s.In && w.above(a, s.To))
}

func (w *words) apply(o api.Op) bool {
	if !isRight(o) {
		return false
	}
	w.past = append(w.past, w.now)
	if !w.known(o.To) || w.above(o.Node, o.To) {
		return false
	}
	stay := func(k api.Kid) bool { return k.Node != o.Node }
	w.now = append(filter(w.now, stay), api.Kid{To: o.To, Name: o.Name, Node: o.Node})
	return true
}

func (w *words) undo() bool {
	if len(w.past) == 0 {
		return false
	}
	last := len(w.past) - 1
	w.now, w.past = w.past[last], w.past[:last]
	return true
}

func (w *words) clone() *words {
	return &words{past: slices.Clone(w.past), now: w.now}
}

// all is all kids: sorted three times, so that the first key is sorted by last.
func (w *words) all() []api.Kid {
	l := slices.Clone(w.now)
	slices.SortStableFunc(l, func(a, b api.Kid) int { return cmp.Compare(a.Node, b.Node) })
	slices.SortStableFunc(l, func(a, b api.Kid) int { return slices.Compare([]byte(a.Name), []byte(b.Name)) })
	slices.SortStableFunc(l, func(a, b api.Kid) int { return cmp.Compare(a.To, b.To) })
	return l
}

func (w *words) kids(n int) []api.Kid {
	return filter(w.all(), func(k api.Kid) bool { return k.To == n })
}

func (w *words) find(path string) (int, api.Errno) {
	if !isPath(path) {
		return 0, api.ErrName
	}
	at := 0
	for _, s := range strings.Split(path, "/")[1:] {
		if path == "/" {
			break
		}
		l := filter(w.kids(at), func(k api.Kid) bool { return k.Name == s })
		if len(l) == 0 {
			return 0, api.ErrNone
		}
		at = l[0].Node
	}
	return at, api.OK
}

// filter is those that are asked for, in a list of its own.
func filter(l []api.Kid, asked func(api.Kid) bool) (out []api.Kid) {
	for _, k := range l {
		if asked(k) {
			out = append(out, k)
		}
	}
	return out
}

// isName tells whether a text is a name, as chapter 3's words say it.
func isName(s string) bool {
	wrong := func(r rune) bool { return r < 32 || r == 127 || r == '/' }
	return len(s) >= 1 && len(s) <= 20 && utf8.ValidString(s) && !strings.ContainsFunc(s, wrong)
}

// isPath tells whether a text is a path, as chapter 3's words say it.
func isPath(s string) bool {
	l := strings.Split(s, "/")
	wrong := func(s string) bool { return !isName(s) }
	return s == "/" || len(s) <= 400 && len(l) > 1 && l[0] == "" && !slices.ContainsFunc(l[1:], wrong)
}

// isNode tells whether a number may be a node's, as chapter 5's words say it.
func isNode(n int) bool { return n >= 256 && n <= maxNode }

// isRight tells whether an operation is, as the words of chapters 3 to 5 say it.
func isRight(o api.Op) bool {
	at := o.At.N >= 1 && o.At.N <= maxN && o.At.R >= 0 && o.At.R <= 255
	return at && isNode(o.Node) && (o.To == 0 || o.To == 1 || isNode(o.To)) && isName(o.Name)
}

// put is an operation that puts a node below another one, at some stamp.
func put(node, to int, name string) api.Op {
	return api.Op{At: api.Stamp{N: 1}, Node: node, To: to, Name: name}
}

// noNodes are numbers that no node has.
func noNodes() []int {
	return []int{math.MinInt, math.MinInt + 1, -maxNode, -256, -1, 2, 3, 128, 254, 255, maxNode + 1, maxNode + 2, 1<<32 + 256, math.MaxInt - 1, math.MaxInt}
}

// noNames are texts that aren't names.
func noNames() []string {
	return []string{"", "/", "/a", "a/", "a/b", "\x00", "a\x00", "\n", "\x1f", "\x7f", "\x80", "a\xc3", "\xed\xa0\x80", strings.Repeat("n", 21), strings.Repeat("n", 5000)}
}

// noPaths are texts that aren't paths.
func noPaths() []string {
	return []string{"", "a", "a/", "a/b", " ", "//", "/a/", "//a", "/a//b", "/a/b/", " /a", "/\x00", "/a\n", "/\x7f", "/\xff", "/" + strings.Repeat("n", 21), "/a/" + strings.Repeat("n", 21), strings.Repeat("/a", 201), strings.Repeat("/a", 199) + "/bcd"}
}

// wrongs are operations of which each would be a right one but for one field.
func wrongs() []api.Op {
	var l []api.Op
	for _, at := range []api.Stamp{{}, {N: -1}, {N: maxN + 1}, {N: math.MinInt}, {N: math.MaxInt}, {N: 1, R: -1}, {N: 1, R: 256}, {N: 1, R: math.MinInt}, {N: 1, R: math.MaxInt}} {
		l = append(l, api.Op{At: at, Node: 256, To: 1, Name: "z"}, api.Op{At: at, Node: 300, To: 256, Name: "z"})
	}
	for _, n := range noNodes() {
		l = append(l, put(n, 0, "z"), put(n, 256, "z"), put(256, n, "z"), put(300, n, "z"))
	}
	for _, s := range noNames() {
		l = append(l, put(256, 1, s), put(300, 256, s))
	}
	return append(l, put(0, 1, "z"), put(1, 0, "z"), put(0, 0, "z"), put(1, 1, "z"), put(0, 256, "z"), put(1, 256, "z"), api.Op{})
}

// asked are nodes that are asked for, those of the tests' trees among them, and numbers that no node has.
func asked() []int {
	return append(noNodes(), 0, 1, 256, 257, 258, 259, 260, 300, maxNode-1, maxNode)
}

// paths are such, and some that aren't any.
func paths() []string {
	l := append(noPaths(), "/")
	for _, a := range []string{"/a", "/b", "/B", "/ab", "/\u00e9"} {
		l = append(l, a)
		for _, b := range []string{"/a", "/b"} {
			l = append(l, a+b, a+b+"/a", a+b+"/b", a+b+"/a/a")
		}
	}
	return l
}

// check holds all that a tree tells of some nodes, and on some paths, against the words.
func check(t *testing.T, x *Tree, w *words, nodes []int, paths []string) {
	t.Helper()
	if got := x.All(); !slices.Equal(got, w.all()) {
		t.Errorf("All: %v, not %v", got, w.all())
	}
	for _, n := range nodes {
		if got := x.Spot(n); got != w.spot(n) {
			t.Errorf("Spot(%v) = %v, not %v", n, got, w.spot(n))
		}
		if got := x.Known(n); got != w.known(n) {
			t.Errorf("Known(%v) = %v", n, got)
		}
		if got := x.Kids(n); !slices.Equal(got, w.kids(n)) {
			t.Errorf("Kids(%v) = %v, not %v", n, got, w.kids(n))
		}
		for _, m := range nodes {
			if got := x.Above(n, m); got != w.above(n, m) {
				t.Errorf("Above(%v, %v) = %v", n, m, got)
			}
		}
	}
	for _, p := range paths {
		n, e := w.find(p)
		if got, err := x.Find(p); got != n || err != e {
			t.Errorf("Find(%q) = %v, %v, not %v, %v", p, got, err, n, e)
		}
	}
	checkUp(t, x)
}

// checkUp tells whether one comes to the root, or to the trash, from each node, going up.
func checkUp(t *testing.T, x *Tree) {
	t.Helper()
	l := x.All()
	for _, k := range l {
		n := k.Node
		for steps := 0; n > 1; steps++ {
			s := x.Spot(n)
			if !s.In || !x.Known(n) || steps > len(l) {
				t.Fatalf("from %v one comes to %v, and no further up, in %v", k.Node, n, l)
			}
			n = s.To
		}
		if !x.Above(n, k.Node) || x.Above(1-n, k.Node) {
			t.Errorf("%v is above %v, in %v", n, k.Node, l)
		}
	}
}

// apply applies to both, and holds what is told against the words.
func apply(t *testing.T, x *Tree, w *words, o api.Op) {
	t.Helper()
	want := w.apply(o)
	if got := x.Apply(o); got != want {
		t.Errorf("Apply(%v) = %v", o, got)
	}
}

// undo undoes in both, and holds what is told against the words.
func undo(t *testing.T, x *Tree, w *words) bool {
	t.Helper()
	want := w.undo()
	if got := x.Undo(); got != want {
		t.Fatalf("Undo() = %v", got)
	}
	return want
}

// undoAll undoes all that is remembered, one by one, and then once more.
func undoAll(t *testing.T, x *Tree, w *words, nodes []int, paths []string) {
	t.Helper()
	for undo(t, x, w) {
		check(t, x, w, nodes, paths)
	}
	check(t, x, w, nodes, paths)
	if l := x.All(); len(l) != 0 {
		t.Errorf("all is undone, but %v", l)
	}
}

// grown is a tree to which operations were applied, and that by the words.
func grown(t *testing.T, l ...api.Op) (*Tree, *words) {
	t.Helper()
	x, w := New(), &words{}
	for _, o := range l {
		apply(t, x, w, o)
	}
	return x, w
}

// some are operations that make a tree with two names alike, with depth, and with something in the trash; some of them move, and some do nothing.
func some() []api.Op {
	return []api.Op{
		put(256, 0, "a"), put(257, 256, "b"), put(258, 0, "a"), put(259, 1, "a"), put(260, 300, "a"),
		put(260, 257, "a"), put(256, 260, "b"), put(258, 258, "a"), put(maxNode, 260, "a"), put(258, 256, "b"),
		put(258, 256, "b"), put(257, 0, "b"), put(257, 256, "a"), put(259, 0, "a"), put(260, 1, "\u00e9"),
	}
}

func TestExample(t *testing.T) {
	x := New()
	if !x.Apply(put(256, 0, "a")) || !x.Apply(put(257, 256, "b")) {
		t.Error("what should be done isn't")
	}
	if n, e := x.Find("/a/b"); n != 257 || e != api.OK {
		t.Error(n, e)
	}
	if x.Apply(put(256, 257, "c")) {
		t.Error("a node is below itself")
	}
	if n, e := x.Find("/a/b"); n != 257 || e != api.OK {
		t.Error(n, e)
	}
}

// P7.1: a new tree has the root and the trash alone; two new ones are two.
func TestNew(t *testing.T) {
	x, w := grown(t)
	check(t, x, w, asked(), paths())
	if x.Undo() {
		t.Error("something was remembered")
	}
	y := New()
	y.Apply(put(256, 0, "a"))
	check(t, x, w, asked(), paths())
}

// P7.1: of an operation that isn't right nothing is done, and nothing is remembered, in a tree of any kind.
func TestApplyWrong(t *testing.T) {
	for size := range len(some()) + 1 {
		x, w := grown(t, some()[:size]...)
		for _, o := range wrongs() {
			if isRight(o) {
				t.Fatalf("%v is right", o)
			}
			if x.Apply(o) {
				t.Errorf("Apply(%v), that isn't right, was done", o)
			}
		}
		check(t, x, w, asked(), paths())
		undoAll(t, x, w, asked(), paths())
	}
}

// P7.1: right operations at the edges of all their fields are done.
func TestApplyEdges(t *testing.T) {
	for _, at := range []api.Stamp{{N: 1}, {N: 1, R: 255}, {N: maxN}, {N: maxN, R: 255}} {
		for _, n := range []int{256, 257, maxNode - 1, maxNode} {
			for _, to := range []int{0, 1} {
				for _, s := range []string{"a", " ", "~", "..", "\u0080", "\ufffd", strings.Repeat("n", 20), strings.Repeat("\U0001f333", 5)} {
					x := New()
					if !x.Apply(api.Op{At: at, Node: n, To: to, Name: s}) {
						t.Errorf("%v at %v below %v by %q wasn't done", n, at, to, s)
					}
					if got := x.Spot(n); got != (api.Spot{In: true, To: to, Name: s}) {
						t.Errorf("%v at %v below %v by %q: %v", n, at, to, s, got)
					}
				}
			}
		}
	}
}

// P7.1: stamps play no part but that they are right: what is applied later is done later.
func TestStampsPlayNoPart(t *testing.T) {
	x := New()
	for i, n := range []int{9, 9, 1, maxN, 5} {
		o := api.Op{At: api.Stamp{N: n, R: i}, Node: 256, To: i % 2, Name: string(rune('a' + i))}
		if !x.Apply(o) || x.Spot(256) != (api.Spot{In: true, To: o.To, Name: o.Name}) {
			t.Errorf("%v: %v", o, x.Spot(256))
		}
	}
}

// P7.1: what each operation does is written out here, and where the node is behind it.
func TestApply(t *testing.T) {
	x := New()
	for i, c := range []struct {
		o    api.Op
		ok   bool
		spot api.Spot
	}{
		{put(256, 0, "a"), true, api.Spot{In: true, Name: "a"}},
		{put(257, 300, "b"), false, api.Spot{}},                                // To isn't known
		{put(257, 257, "b"), false, api.Spot{}},                                // nor is this one, yet
		{put(257, 256, "b"), true, api.Spot{In: true, To: 256, Name: "b"}},     // it was refused ahead, which plays no part
		{put(258, 257, "c"), true, api.Spot{In: true, To: 257, Name: "c"}},     // deeper
		{put(256, 256, "d"), false, api.Spot{In: true, Name: "a"}},             // below itself
		{put(256, 257, "d"), false, api.Spot{In: true, Name: "a"}},             // below one right below it
		{put(256, 258, "d"), false, api.Spot{In: true, Name: "a"}},             // below one deep below it
		{put(256, 300, "d"), false, api.Spot{In: true, Name: "a"}},             // a known node below one that isn't
		{put(258, 257, "c"), true, api.Spot{In: true, To: 257, Name: "c"}},     // to where it is
		{put(258, 257, "e"), true, api.Spot{In: true, To: 257, Name: "e"}},     // by another name
		{put(258, 256, "e"), true, api.Spot{In: true, To: 256, Name: "e"}},     // further up
		{put(257, 258, "b"), true, api.Spot{In: true, To: 258, Name: "b"}},     // below one that was below it
		{put(258, 257, "e"), false, api.Spot{In: true, To: 256, Name: "e"}},    // which goes no more the other way
		{put(256, 1, "a"), true, api.Spot{In: true, To: 1, Name: "a"}},         // into the trash, with all below it
		{put(256, 257, "a"), false, api.Spot{In: true, To: 1, Name: "a"}},      // where it is still above them
		{put(259, 257, "f"), true, api.Spot{In: true, To: 257, Name: "f"}},     // what is in the trash may have nodes below it
		{put(256, 0, "g"), true, api.Spot{In: true, Name: "g"}},                // out of the trash
		{put(260, 0, "g"), true, api.Spot{In: true, Name: "g"}},                // a name that is there already
		{put(256, 260, "g"), true, api.Spot{In: true, To: 260, Name: "g"}},     // below one of its own name
		{put(260, 259, "g"), false, api.Spot{In: true, Name: "g"}},             // a whole way down
		{put(maxNode, 260, "h"), true, api.Spot{In: true, To: 260, Name: "h"}}, // the greatest node
		{put(260, maxNode, "g"), false, api.Spot{In: true, Name: "g"}},
		{put(257, maxNode, "b"), true, api.Spot{In: true, To: maxNode, Name: "b"}},
	} {
		if ok := x.Apply(c.o); ok != c.ok {
			t.Errorf("%v: Apply(%v) = %v", i, c.o, ok)
		}
		if s := x.Spot(c.o.Node); s != c.spot {
			t.Errorf("%v: behind %v it is at %v, not %v", i, c.o, s, c.spot)
		}
	}
	want := []api.Kid{
		{To: 0, Name: "g", Node: 260}, {To: 256, Name: "e", Node: 258}, {To: 257, Name: "f", Node: 259},
		{To: 260, Name: "g", Node: 256}, {To: 260, Name: "h", Node: maxNode}, {To: maxNode, Name: "b", Node: 257},
	}
	if l := x.All(); !slices.Equal(l, want) {
		t.Error(l)
	}
}

// P7.2: each Undo takes back one right operation, the last one first, be it that it moved, renamed, put where it was, or did nothing.
func TestUndo(t *testing.T) {
	x := New()
	var all [][]api.Kid
	for _, o := range some() {
		all = append(all, x.All())
		x.Apply(o)
		x.Apply(put(255, 0, "a")) // which isn't right, and isn't remembered
	}
	for i, want := range slices.Backward(all) {
		if !x.Undo() {
			t.Errorf("%v isn't remembered", i)
		}
		if got := x.All(); !slices.Equal(got, want) {
			t.Errorf("ahead of %v: %v, not %v", i, got, want)
		}
	}
	if x.Undo() || x.Undo() || len(x.All()) != 0 {
		t.Error("more was undone than done")
	}
}

// P7.2: what did nothing is forgotten by one Undo, that undoes nothing else.
func TestUndoNothing(t *testing.T) {
	x, w := grown(t, put(256, 0, "a"), put(257, 256, "b"))
	for _, o := range []api.Op{put(256, 257, "c"), put(256, 256, "c"), put(258, 300, "c"), put(256, 300, "c"), put(256, 0, "a")} {
		x.Apply(o)
		check(t, x, w, asked(), paths())
		if !x.Undo() {
			t.Errorf("%v isn't remembered", o)
		}
		check(t, x, w, asked(), paths())
	}
	undoAll(t, x, w, asked(), paths())
}

// P7.2: behind an Undo a tree goes on from there: another operation may be applied, and undone.
func TestUndoAndOn(t *testing.T) {
	x, w := New(), &words{}
	for i, o := range some() {
		apply(t, x, w, o)
		if i%3 == 2 {
			undo(t, x, w)
			apply(t, x, w, put(256+i%4, 256+i%3, "b"))
			undo(t, x, w)
			undo(t, x, w)
		}
		check(t, x, w, asked(), paths())
	}
	undoAll(t, x, w, asked(), paths())
	for _, o := range some() {
		apply(t, x, w, o)
		check(t, x, w, asked(), paths())
	}
}

// P7.3: the root and the trash are known, and nowhere; what isn't known is zeros, and nothing is above it.
func TestSpotKnownAbove(t *testing.T) {
	x := New()
	x.Apply(put(256, 0, "a"))
	x.Apply(put(257, 256, "b"))
	x.Apply(put(258, 257, "c"))
	x.Apply(put(259, 1, "d"))
	for _, n := range append(noNodes(), 260, 300, maxNode) {
		if x.Known(n) || x.Spot(n) != (api.Spot{}) || x.Above(n, n) {
			t.Errorf("%v is known", n)
		}
		for _, m := range []int{0, 1, 256, 257, 258, 259} {
			if x.Above(n, m) || x.Above(m, n) {
				t.Errorf("%v is above %v, or the other way round", n, m)
			}
		}
	}
	spots := map[int]api.Spot{0: {}, 1: {}, 256: {In: true, Name: "a"}, 257: {In: true, To: 256, Name: "b"}, 258: {In: true, To: 257, Name: "c"}, 259: {In: true, To: 1, Name: "d"}}
	ups := map[int][]int{0: {0}, 1: {1}, 256: {256, 0}, 257: {257, 256, 0}, 258: {258, 257, 256, 0}, 259: {259, 1}}
	for n, s := range spots {
		if !x.Known(n) || x.Spot(n) != s {
			t.Errorf("%v is at %v", n, x.Spot(n))
		}
		for m := range spots {
			if got := x.Above(m, n); got != slices.Contains(ups[n], m) {
				t.Errorf("Above(%v, %v) = %v", m, n, got)
			}
		}
	}
}

// P7.2, P7.3: an Undo takes a node out, and it is as if it had never been there.
func TestTakenOut(t *testing.T) {
	x := New()
	x.Apply(put(256, 0, "a"))
	x.Apply(put(257, 256, "b"))
	if !x.Known(257) || !x.Above(257, 257) || !x.Above(256, 257) || !x.Above(0, 257) {
		t.Error("it isn't there")
	}
	x.Undo()
	if x.Known(257) || x.Above(257, 257) || x.Above(256, 257) || x.Above(0, 257) || x.Spot(257) != (api.Spot{}) || len(x.Kids(256)) != 0 {
		t.Error("it isn't gone")
	}
	if n, e := x.Find("/a/b"); n != 0 || e != api.ErrNone {
		t.Error(n, e)
	}
	if x.Apply(put(258, 257, "c")) || x.Known(258) {
		t.Error("something is below one that is gone")
	}
	if !x.Apply(put(256, 1, "a")) || !x.Apply(put(257, 0, "b")) || !x.Apply(put(256, 257, "a")) {
		t.Error("what is gone doesn't come back")
	}
}

// P7.4: kids stand by their names, byte by byte, and of one name by their numbers; all of them by what they are below first.
func TestKidsAll(t *testing.T) {
	names := []string{" ", "A", "B", "Z", "a", "a b", "aa", "ab", "b", "z", "~", "\u00e9", "\ufffd", "\U0001f333"}
	tos := []int{0, 1, 256, 1 << 30, maxNode}
	x := New()
	x.Apply(put(256, 0, "~~"))
	x.Apply(put(1<<30, 256, "~~"))
	x.Apply(put(maxNode, 1, "~~"))
	// Each name is there at each place three times; numbers rise neither with the names, nor with the places.
	number := func(to, s, k int) int { return 1000 + (to*7+s*11+k*5)%13*1000 + s*100 + to*10 + k }
	var want []api.Kid
	for i, to := range tos {
		for j, s := range names {
			three := []api.Kid{{To: to, Name: s, Node: number(i, j, 0)}, {To: to, Name: s, Node: number(i, j, 1)}, {To: to, Name: s, Node: number(i, j, 2)}}
			for _, k := range three {
				if x.Known(k.Node) || !x.Apply(put(k.Node, to, s)) {
					t.Fatalf("%v isn't new, or isn't put", k)
				}
			}
			slices.SortFunc(three, func(a, b api.Kid) int { return a.Node - b.Node })
			want = append(want, three...)
			for place, n := range map[int]int{0: 256, 256: 1 << 30, 1: maxNode} {
				if to == place && s == "~" {
					want = append(want, api.Kid{To: to, Name: "~~", Node: n})
				}
			}
		}
	}
	if got := x.All(); !slices.Equal(got, want) {
		t.Errorf("All: %v, not %v", got, want)
	}
	for _, n := range append(asked(), tos...) {
		below := filter(want, func(k api.Kid) bool { return k.To == n })
		if got := x.Kids(n); !slices.Equal(got, below) {
			t.Errorf("Kids(%v) = %v, not %v", n, got, below)
		}
	}
}

// P7.4, R4: where nothing is, the lists are empty.
func TestKidsNone(t *testing.T) {
	x := New()
	x.Apply(put(256, 0, "a"))
	x.Apply(put(257, 256, "a"))
	for _, n := range append(noNodes(), 1, 257, 300, maxNode) {
		if l := x.Kids(n); len(l) != 0 {
			t.Errorf("Kids(%v) = %v", n, l)
		}
	}
	x.Undo()
	x.Undo()
	if len(x.Kids(0)) != 0 || len(x.Kids(256)) != 0 || len(x.All()) != 0 {
		t.Error(x.All())
	}
}

// P7.4: Find goes by the least number of a name at each step, and turns back from none of them.
func TestFind(t *testing.T) {
	x := New()
	for _, o := range []api.Op{
		put(300, 0, "a"), put(256, 300, "b"), put(258, 0, "a"), put(260, 258, "b"), put(259, 258, "b"), put(257, 259, "c"),
		put(301, 300, "only"), put(302, 260, "only"), put(303, 1, "gone"), put(304, 303, "gone"), put(305, 0, "\u00e9"),
		put(306, 0, "~"), put(307, 0, "A"), put(308, 257, strings.Repeat("n", 20)),
	} {
		if !x.Apply(o) {
			t.Fatal(o)
		}
	}
	for _, c := range []struct {
		path string
		n    int
		e    api.Errno
	}{
		{"/", 0, api.OK},
		{"/a", 258, api.OK},         // the lesser of two, that came later
		{"/a/b", 259, api.OK},       // the lesser of two there; the least of all by that name is below the other a
		{"/a/b/c", 257, api.OK},     // deeper
		{"/A", 307, api.OK},         // another name than a
		{"/\u00e9", 305, api.OK},    // more bytes than one
		{"/~", 306, api.OK},         // no name but this means itself
		{"/a/only", 0, api.ErrNone}, // the other a has it
		{"/a/b/only", 0, api.ErrNone},
		{"/a/c", 0, api.ErrNone}, // further down
		{"/b", 0, api.ErrNone},
		{"/c", 0, api.ErrNone},
		{"/a/a", 0, api.ErrNone},
		{"/a/b/c/d", 0, api.ErrNone},
		{"/gone", 0, api.ErrNone}, // the trash isn't below the root
		{"/gone/gone", 0, api.ErrNone},
		{"/zz/b", 0, api.ErrNone}, // the first name fails, the second one is there
		{"/e", 0, api.ErrNone},
		{"/a ", 0, api.ErrNone},
		{"/.", 0, api.ErrNone},
		{"/a/..", 0, api.ErrNone},
		{"/a/b/c/" + strings.Repeat("n", 20), 308, api.OK},
		{"/a/b/c/" + strings.Repeat("n", 19), 0, api.ErrNone},
		{"/zz/" + strings.Repeat("n", 21), 0, api.ErrName}, // no path at all, though its first name is there not either
		{"/a/b/c/", 0, api.ErrName},
	} {
		if n, e := x.Find(c.path); n != c.n || e != c.e {
			t.Errorf("Find(%q) = %v, %v, not %v, %v", c.path, n, e, c.n, c.e)
		}
	}
	for _, p := range noPaths() {
		if n, e := x.Find(p); n != 0 || e != api.ErrName {
			t.Errorf("Find(%q) = %v, %v", p, n, e)
		}
	}
}

// P7.4: names that are alike, whatever the order in which their nodes came: the least number, and when it goes, the next one.
func TestFindLeast(t *testing.T) {
	nodes := []int{256, 257, 300, 1 << 31, maxNode}
	for turn := range nodes {
		x := New()
		for i := range nodes {
			x.Apply(put(nodes[(i*2+turn)%len(nodes)], 0, "a"))
		}
		for _, n := range nodes {
			if got, e := x.Find("/a"); got != n || e != api.OK {
				t.Errorf("turn %v: %v, %v, not %v", turn, got, e, n)
			}
			x.Apply(put(n, 1, "a"))
		}
		if n, e := x.Find("/a"); n != 0 || e != api.ErrNone {
			t.Error(n, e)
		}
	}
}

// P7.1, P7.3, P7.4, P7.6: a way of 2^16 nodes; the longest path finds the 200th one of them, and none above the last one is put below it.
func TestDeep(t *testing.T) {
	const deep = 1 << 16
	x := New()
	x.Apply(put(256, 0, "a"))
	for n := 257; n < 256+deep; n++ {
		if !x.Apply(put(n, n-1, "a")) {
			t.Fatal(n)
		}
	}
	last := 256 + deep - 1
	if n, e := x.Find(strings.Repeat("/a", 200)); n != 256+199 || e != api.OK {
		t.Error(n, e)
	}
	if n, e := x.Find(strings.Repeat("/a", 199) + "/b"); n != 0 || e != api.ErrNone {
		t.Error(n, e)
	}
	if n, e := x.Find(strings.Repeat("/a", 201)); n != 0 || e != api.ErrName {
		t.Error(n, e)
	}
	if !x.Above(0, last) || !x.Above(256, last) || x.Above(last, 256) || x.Above(1, last) {
		t.Error("above")
	}
	if x.Apply(put(256, last, "a")) || x.Apply(put(last-1, last, "a")) || !x.Apply(put(last, 256, "a")) || !x.Apply(put(256, 1, "a")) {
		t.Error("what is below itself")
	}
	if !x.Above(1, last-1) || x.Above(0, last) || len(x.All()) != deep {
		t.Error("the trash")
	}
	for range deep + 4 {
		if !x.Undo() {
			t.Fatal("not all is remembered")
		}
	}
	if x.Undo() || len(x.All()) != 0 {
		t.Error("undone")
	}
}

// P7.5: a clone tells the same, and remembers the same; what is applied, and undone, on one side isn't on the other, whichever side it is.
func TestClone(t *testing.T) {
	for size := range len(some()) + 1 {
		x, w := grown(t, some()[:size]...)
		y, v := x.Clone(), w.clone()
		check(t, y, v, asked(), paths())
		for _, o := range []api.Op{put(256, 1, "c"), put(300, 0, "c"), put(300, 300, "c"), put(257, 0, "c")} {
			apply(t, x, w, o)
		}
		check(t, y, v, asked(), paths())
		for _, o := range []api.Op{put(301, 0, "d"), put(302, 303, "d"), put(256, 0, "d")} {
			apply(t, y, v, o)
		}
		check(t, x, w, asked(), paths())
		undoAll(t, x, w, asked(), paths())
		check(t, y, v, asked(), paths())
		undoAll(t, y, v, asked(), paths())
	}
}

// P7.5: what the first one has undone, the clone still has, and the other way round; a clone of a clone is one too.
func TestCloneUndo(t *testing.T) {
	for size := range len(some()) + 1 {
		x, w := grown(t, some()[:size]...)
		y, v := x.Clone(), w.clone()
		z, u := y.Clone(), v.clone()
		for range size / 2 {
			undo(t, x, w)
		}
		check(t, y, v, asked(), paths())
		apply(t, x, w, put(300, 0, "e"))
		apply(t, x, w, put(300, 1, "f"))
		undoAll(t, y, v, asked(), paths())
		check(t, x, w, asked(), paths())
		undoAll(t, x, w, asked(), paths())
		apply(t, x, w, put(301, 0, "g"))
		apply(t, y, v, put(302, 0, "g"))
		check(t, x, w, asked(), paths())
		check(t, y, v, asked(), paths())
		check(t, z, u, asked(), paths())
		undoAll(t, z, u, asked(), paths())
	}
}

// moves are all operations of a few nodes and names, of which one node is never put anywhere.
func moves(nodes int, names ...string) (l []api.Op) {
	for n := range nodes {
		for _, to := range append([]int{0, 1, 300}, []int{256, 257, 258, 259}[:nodes]...) {
			for _, s := range names {
				l = append(l, put(256+n, to, s))
			}
		}
	}
	return l
}

// P7.1 to P7.6: each row of up to so many operations, each undone behind what follows it.
func TestEachRow(t *testing.T) {
	for _, c := range []struct {
		long, nodes int
		names       []string
	}{{4, 2, []string{"a"}}, {3, 2, []string{"a", "b"}}, {3, 3, []string{"a"}}, {2, 4, []string{"a", "b"}}} {
		t.Run(fmt.Sprint(c), func(t *testing.T) {
			few := []int{-1, 0, 1, 2, 256, 257, 258, 259, 300}
			ways := []string{"/", "/a", "/b", "/a/a", "/a/b", "/b/a", "/a/a/a", "/a/"}
			x, w := New(), &words{}
			var row func(left int)
			row = func(left int) {
				check(t, x, w, few, ways)
				if left == 0 {
					return
				}
				for _, o := range moves(c.nodes, c.names...) {
					apply(t, x, w, o)
					row(left - 1)
					undo(t, x, w)
					if got := x.All(); !slices.Equal(got, w.all()) {
						t.Fatalf("behind %v, undone: %v, not %v", o, got, w.all())
					}
				}
			}
			row(c.long)
			if x.Undo() {
				t.Error("something is remembered")
			}
		})
	}
}

// P7.1 to P7.6: long rows of operations, undoings and clonings, picked by a number that is turned each time.
func TestLongRows(t *testing.T) {
	for seed := range 20 {
		b := make([]byte, 400)
		x := uint32(seed*2654435761 + 1)
		for i := range b {
			x = x*1664525 + 1013904223
			b[i] = byte(x >> 24)
		}
		play(t, b, asked(), paths())
	}
}

// play takes bytes for what is done to some trees, one behind the other, and holds all of them against the words, again and again.
func play(t *testing.T, b []byte, nodes []int, paths []string) {
	t.Helper()
	names := []string{"a", "b", "B", "ab", "\u00e9", "a/b"}
	x, w := New(), &words{}
	other, others := New(), &words{}
	for ; len(b) >= 4; b = b[4:] {
		switch b[0] % 8 {
		case 0:
			undo(t, x, w)
		case 1:
			x, w, other, others = other, others, x, w
		case 2:
			if b[1]%4 == 0 {
				other, others = x.Clone(), w.clone()
			}
		default:
			to := []int{0, 1, 256, 257, 258, 259, 260, 300, 2, maxNode}[b[2]%10]
			apply(t, x, w, put([]int{256, 257, 258, 259, 260, maxNode, 255}[b[1]%7], to, names[b[3]%6]))
		}
		if b[3]%16 == 0 {
			check(t, x, w, nodes, paths)
			check(t, other, others, nodes, paths)
		}
	}
	check(t, x, w, nodes, paths)
	check(t, other, others, nodes, paths)
	for undo(t, x, w) {
		checkUp(t, x)
	}
	check(t, x, w, nodes, paths)
	check(t, other, others, nodes, paths)
}

// R5: who changes a list that was answered changes nothing else: not the tree, not its clone, not another answer.
func TestAnswersAreOwn(t *testing.T) {
	x, w := grown(t, some()...)
	y := x.Clone()
	spoil := func(l []api.Kid) {
		l = l[:cap(l)]
		for i := range l {
			l[i] = api.Kid{To: 1, Name: "spoiled", Node: 300}
		}
	}
	for _, ask := range []func() []api.Kid{x.All, func() []api.Kid { return x.Kids(0) }, func() []api.Kid { return x.Kids(1) }, func() []api.Kid { return x.Kids(256) }, func() []api.Kid { return x.Kids(300) }} {
		first, second := ask(), ask()
		kept := slices.Clone(second)
		spoil(first)
		if !slices.Equal(second, kept) {
			t.Errorf("%v became %v", kept, second)
		}
		spoil(second)
		check(t, x, w, asked(), paths())
		check(t, y, w, asked(), paths())
	}
	undoAll(t, x, w, asked(), paths())
}

// R5: of a name that is a piece of a longer text nothing is kept but the name.
func TestNamesAreOwn(t *testing.T) {
	long := strings.Repeat("long ", 1000) + "name"
	s := long[5000:]
	x := New()
	x.Apply(put(256, 0, s))
	if got := x.Spot(256).Name; got != "name" || unsafe.StringData(got) == unsafe.StringData(s) {
		t.Errorf("%q is kept, with all that is ahead of it", got)
	}
}

// R6: the same asked again tells the same, and two trees to which the same was done tell the same, whatever order their maps have.
func TestAgain(t *testing.T) {
	var l []api.Op
	for n := 256; n < 400; n++ {
		l = append(l, put(n, []int{0, 1, 256}[n%3], []string{"a", "b"}[n%2]))
	}
	x, w := grown(t, l...)
	all, kids := x.All(), x.Kids(0)
	n, e := x.Find("/b")
	for range 50 {
		y, _ := grown(t, l...)
		for _, z := range []*Tree{x, y} {
			if m, f := z.Find("/b"); !slices.Equal(z.All(), all) || !slices.Equal(z.Kids(0), kids) || m != n || f != e {
				t.Fatal("asked again, it is another answer")
			}
		}
	}
	check(t, x, w, asked(), paths())
}

// All promises, at whatever is done.
func FuzzTree(f *testing.F) {
	f.Add([]byte{})
	f.Add([]byte("\x03\x00\x00\x00\x03\x01\x02\x01\x03\x00\x03\x00\x00\x00\x00\x00"))
	f.Add([]byte("\x03\x00\x00\x00\x03\x01\x02\x01\x02\x00\x00\x00\x00\x00\x00\x00\x01\x00\x00\x00\x03\x02\x03\x00"))
	f.Fuzz(func(t *testing.T, b []byte) {
		play(t, b[:min(len(b), 400)], []int{-1, 0, 1, 2, 256, 257, 258, 259, 260, 300, maxNode}, []string{"", "/", "/a", "/b", "/a/a", "/a/b", "/b/a", "/a/b/a", "/a/"})
	})
}

// All promises, of any one operation in a tree that has grown, and of any path there.
func FuzzOp(f *testing.F) {
	f.Add(5, 7, 1287, 0, "a", "/a")
	f.Add(1, 0, 256, 260, "b", "/a/b/a")
	f.Add(0, 256, 255, 2, "a/b", "/a/")
	f.Fuzz(func(t *testing.T, n, r, node, to int, name, path string) {
		x, w := grown(t, some()...)
		apply(t, x, w, api.Op{At: api.Stamp{N: n, R: r}, Node: node, To: to, Name: name})
		nodes := []int{0, 1, 256, 257, 258, 259, 260, node, to}
		ways := []string{path, "/", "/" + name, "/a", "/a/" + name}
		check(t, x, w, nodes, ways)
		undoAll(t, x, w, nodes, ways)
	})
}
