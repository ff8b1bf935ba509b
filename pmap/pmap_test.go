package pmap

import (
	"cmp"
	"math"
	"math/bits"
	"runtime"
	"slices"
	"strings"
	"testing"
	"weak"

	"holt/api"
	"holt/arena"
)

// row is a key and its value.
type row[K, V comparable] struct {
	key K
	val V
}

// version is one that stands, as it was when it was told: its rows by the chapter's words, and all its nodes.
type version[K, V comparable] struct {
	root  api.Handle
	rows  []row[K, V]
	nodes map[api.Handle]Node[K, V]
}

// high is its root's High; 0, if it is the empty one.
func (v version[K, V]) high() int { return v.nodes[v.root].High }

// trial is a map that is held against the words: its versions that stand, the empty one first, and which nodes lie there.
type trial[K, V comparable] struct {
	t    *testing.T
	m    *Map[K, V]
	cmp  func(a, b K) int
	most int
	all  []version[K, V]
	lie  map[api.Handle]bool
}

func start[K, V comparable](t *testing.T, most int, cmp func(a, b K) int) *trial[K, V] {
	t.Helper()
	m := New[K, V](most, cmp)
	if m == nil {
		t.Fatalf("New(%v) is nil", most)
	}
	return &trial[K, V]{t: t, m: m, cmp: cmp, most: most, all: []version[K, V]{{}}, lie: map[api.Handle]bool{}}
}

// ints is a trial of numbers with texts.
func ints(t *testing.T, most int) *trial[int, string] {
	t.Helper()
	return start[int, string](t, most, cmp.Compare[int])
}

// empty is the empty version.
func (x *trial[K, V]) empty() version[K, V] { return x.all[0] }

// look goes through a version's nodes in order, tells them, and holds them against the words: order, heights, sides.
func (x *trial[K, V]) look(h api.Handle) version[K, V] {
	x.t.Helper()
	v := version[K, V]{root: h, nodes: map[api.Handle]Node[K, V]{}}
	var down func(h api.Handle) int
	down = func(h api.Handle) int {
		if h == (api.Handle{}) {
			return 0
		}
		n, ok := x.m.Load(h)
		if _, twice := v.nodes[h]; !ok || twice {
			x.t.Fatalf("of %v, %v is there: %v, is there twice: %v", v.root, h, ok, twice)
		}
		v.nodes[h] = n
		a := down(n.Left)
		v.rows = append(v.rows, row[K, V]{n.Key, n.Val})
		b := down(n.Right)
		if n.High != 1+max(a, b) || a-b > 1 || b-a > 1 {
			x.t.Fatalf("%v has the High %v, on sides of %v and %v", n.Key, n.High, a, b)
		}
		return n.High
	}
	down(h)
	for i := 1; i < len(v.rows); i++ {
		if x.cmp(v.rows[i-1].key, v.rows[i].key) >= 0 {
			x.t.Fatalf("not in order: %v", v.rows)
		}
	}
	// Behind a doubling of what a number of keys may be, a version is one higher by 1 and a half at most.
	if n := len(v.rows); 2*v.high() > 3*bits.Len(uint(n))+4 {
		x.t.Fatalf("%v nodes have the High %v", n, v.high())
	}
	return v
}

// same holds a version against what it was when it was told, node by node.
func (x *trial[K, V]) same(v version[K, V]) {
	x.t.Helper()
	now := x.look(v.root)
	if !slices.Equal(now.rows, v.rows) || len(now.nodes) != len(v.nodes) {
		x.t.Fatalf("the version %v has %v, and had %v", v.root, now.rows, v.rows)
	}
	for h, n := range v.nodes {
		if now.nodes[h] != n {
			x.t.Fatalf("the node %v is %v, and was %v", h, now.nodes[h], n)
		}
	}
}

// count holds Live and Room against the nodes that must lie there.
func (x *trial[K, V]) count() {
	x.t.Helper()
	if x.m.Live() != len(x.lie) || x.m.Room() != x.most-len(x.lie) {
		x.t.Fatalf("Live %v, Room %v; %v of %v lie there", x.m.Live(), x.m.Room(), len(x.lie), x.most)
	}
}

// check holds all versions that stand against what they were.
func (x *trial[K, V]) check() {
	x.t.Helper()
	for _, v := range x.all {
		x.same(v)
	}
	for h := range x.lie {
		if _, ok := x.m.Load(h); !ok {
			x.t.Fatalf("%v isn't there", h)
		}
	}
	x.count()
}

// place is where a key stands in a version, or would stand, and whether it is there.
func (x *trial[K, V]) place(v version[K, V], k K) (int, bool) {
	return slices.BinarySearchFunc(v.rows, k, func(r row[K, V], k K) int { return x.cmp(r.key, k) })
}

// put puts a key into a version; false, if the map told that there isn't room: then it is held against the words that nothing was done.
func (x *trial[K, V]) put(v version[K, V], k K, val V) (version[K, V], Edit, bool) {
	x.t.Helper()
	i, there := x.place(v, k)
	rows := slices.Clone(v.rows)
	if there {
		rows[i] = row[K, V]{k, val}
	} else {
		rows = slices.Insert(rows, i, row[K, V]{k, val})
	}
	e, ok := x.m.Put(v.root, k, val)
	return x.edit(v, e, ok, rows)
}

// del takes a key that is there out of a version, as put puts one in.
func (x *trial[K, V]) del(v version[K, V], k K) (version[K, V], Edit, bool) {
	x.t.Helper()
	i, there := x.place(v, k)
	if !there {
		x.t.Fatalf("%v isn't in %v", k, v.rows)
	}
	e, ok := x.m.Del(v.root, k)
	return x.edit(v, e, ok, slices.Delete(slices.Clone(v.rows), i, i+1))
}

// delNone takes a key out of a version that hasn't it.
func (x *trial[K, V]) delNone(v version[K, V], k K) {
	x.t.Helper()
	e, ok := x.m.Del(v.root, k)
	if ok {
		x.t.Fatalf("%v was taken out of %v", k, v.rows)
	}
	x.none(e)
}

// edit holds what was told, and the new version, against the words.
func (x *trial[K, V]) edit(v version[K, V], e Edit, ok bool, rows []row[K, V]) (version[K, V], Edit, bool) {
	x.t.Helper()
	if !ok {
		x.none(e)
		x.same(v)
		return version[K, V]{}, e, false
	}
	n := x.look(e.Root)
	if !slices.Equal(n.rows, rows) {
		x.t.Fatalf("of %v there came %v, not %v", v.rows, n.rows, rows)
	}
	x.differ("made", e.Made, n, v)
	x.differ("gone", e.Gone, v, n)
	if len(e.Made)-len(e.Gone) != len(n.rows)-len(v.rows) || len(e.Made) > 3*v.high()+1 {
		x.t.Fatalf("of a version with the High %v, %v are made, and %v are gone", v.high(), len(e.Made), len(e.Gone))
	}
	for _, h := range e.Made {
		if x.lie[h] {
			x.t.Fatalf("%v was there already", h)
		}
		x.lie[h] = true
	}
	x.count()
	x.same(v)
	x.all = append(x.all, n)
	return n, e, true
}

// none holds it that nothing was told, and nothing was done.
func (x *trial[K, V]) none(e Edit) {
	x.t.Helper()
	if e.Root != (api.Handle{}) || len(e.Made) != 0 || len(e.Gone) != 0 {
		x.t.Fatalf("beside false there is told %v", e)
	}
	x.count()
}

// differ holds it that just those nodes are told that one version has, and another one hasn't, each once.
func (x *trial[K, V]) differ(what string, told []api.Handle, has, hasnt version[K, V]) {
	x.t.Helper()
	want := map[api.Handle]bool{}
	for h := range has.nodes {
		if _, too := hasnt.nodes[h]; !too {
			want[h] = true
		}
	}
	if len(told) != len(want) {
		x.t.Fatalf("%v: %v, not %v", what, told, want)
	}
	for _, h := range told {
		if !want[h] {
			x.t.Fatalf("%v: %v, not %v", what, told, want)
		}
		delete(want, h)
	}
}

// gone frees what is gone for a version, after which that one doesn't stand any more, and others that had the same nodes don't, either.
func (x *trial[K, V]) gone(e Edit) {
	x.t.Helper()
	for _, h := range e.Gone {
		if !x.m.Free(h) || x.m.Free(h) {
			x.t.Fatalf("%v is freed not once", h)
		}
		delete(x.lie, h)
		x.all = slices.DeleteFunc(x.all, func(v version[K, V]) bool {
			_, had := v.nodes[h]
			return had
		})
		if n, ok := x.m.Load(h); ok || n != (Node[K, V]{}) {
			x.t.Fatalf("%v was freed, and has %v", h, n)
		}
	}
	x.count()
}

// get holds Get against the words, of each key that is handed in.
func (x *trial[K, V]) get(v version[K, V], keys ...K) {
	x.t.Helper()
	for _, k := range keys {
		var want V
		i, there := x.place(v, k)
		if there {
			want = v.rows[i].val
		}
		if val, ok := x.m.Get(v.root, k); val != want || ok != there {
			x.t.Fatalf("Get(%v) in %v: %v, %v", k, v.rows, val, ok)
		}
	}
	x.count()
}

// grow is a version of keys that were put in this order, each with the text of its number; what is gone is freed.
func grow(x *trial[int, string], keys []int) version[int, string] {
	x.t.Helper()
	v := x.empty()
	for _, k := range keys {
		n, e, ok := x.put(v, k, text(k))
		if !ok {
			x.t.Fatal("there isn't room")
		}
		x.gone(e)
		v = n
	}
	if x.m.Live() != len(v.rows) {
		x.t.Fatalf("%v nodes lie there, of %v keys", x.m.Live(), len(v.rows))
	}
	return v
}

// text is a value by a number.
func text(n int) string {
	if n < 0 {
		return "m" + text(-n)
	}
	return strings.Repeat("x", n%7) + strings.Repeat("y", n/7)
}

// rising are so many numbers, each the double of its place, so that there is one between.
func rising(n int) []int {
	l := make([]int, n)
	for i := range l {
		l[i] = 2 * i
	}
	return l
}

// shuffled are these in an order that is the same for the same seed.
func shuffled(l []int, seed int) []int {
	l = slices.Clone(l)
	c := chance(seed, 2*len(l))
	for i := range l {
		j := i + (int(c[2*i])<<8+int(c[2*i+1]))%(len(l)-i)
		l[i], l[j] = l[j], l[i]
	}
	return l
}

// orders are some ways in which so many keys may come: rising, falling, from both ends, from the middle, and others.
func orders(n int) [][]int {
	up := rising(n)
	down := slices.Clone(up)
	slices.Reverse(down)
	var ends, middle []int
	for i := range n {
		j := i / 2
		if i%2 == 1 {
			j = n - 1 - i/2
		}
		ends = append(ends, up[j])
	}
	middle = slices.Clone(ends)
	slices.Reverse(middle)
	return [][]int{up, down, ends, middle, shuffled(up, n), shuffled(up, n+1000)}
}

// permuted goes through all orders of a list.
func permuted(l []int, yield func([]int)) {
	var from func(i int)
	from = func(i int) {
		if i == len(l) {
			yield(l)
			return
		}
		for j := i; j < len(l); j++ {
			l[i], l[j] = l[j], l[i]
			from(i + 1)
			l[i], l[j] = l[j], l[i]
		}
	}
	from(0)
}

// lowest is the order, level by level, of a version of a High that has as few keys as it may have; mirrored, its lower sides are on the right.
func lowest(high int, mirrored bool) []int {
	var keys []int
	var levels [][]int
	var down func(high, level int)
	down = func(high, level int) {
		if high <= 0 {
			return
		}
		if level == len(levels) {
			levels = append(levels, nil)
		}
		down(high-2, level+1)
		levels[level] = append(levels[level], len(keys))
		keys = append(keys, 2*len(keys))
		down(high-1, level+1)
	}
	down(high, 0)
	var l []int
	for _, level := range levels {
		for _, i := range level {
			if mirrored {
				i = len(keys) - 1 - i
			}
			l = append(l, keys[i])
		}
	}
	return l
}

// fill makes versions of one node until so many slots are free.
func (x *trial[K, V]) fill(free int, k K, v V) {
	x.t.Helper()
	for x.m.Room() > free {
		x.put(x.empty(), k, v)
	}
}

// wrongs are handles that no map of so many slots tells.
func wrongs(slots int) []api.Handle {
	l := []api.Handle{{}, {Gen: 1}, {Slot: 1}, {Slot: slots + 1, Gen: 1}, {Slot: slots + 2, Gen: 1}}
	for _, n := range []int{math.MinInt, math.MinInt + 1, -1 << 32, -2, -1, 1 << 21, 1 << 32, 1<<32 + 1, math.MaxInt - 1, math.MaxInt} {
		l = append(l, api.Handle{Slot: n, Gen: 1}, api.Handle{Slot: 1, Gen: n}, api.Handle{Slot: n, Gen: n}, api.Handle{Slot: slots, Gen: n})
	}
	return l
}

// chance are so many bytes, the same for the same seed.
func chance(seed, long int) []byte {
	l := make([]byte, long)
	x := uint64(seed)*2862933555777941757 + 3037000493
	for i := range l {
		x = x*6364136223846793005 + 1442695040888963407
		l[i] = byte(x >> 33)
	}
	return l
}

func TestExample(t *testing.T) {
	x := ints(t, 20)
	one, _, _ := x.put(x.empty(), 5, "five")
	two, _, _ := x.put(one, 3, "three")
	three, _, _ := x.put(two, 1, "one")
	if n, ok := x.m.Load(three.root); n.Key != 3 || n.Val != "three" || n.High != 2 || !ok {
		t.Error(n, ok)
	}
	for i, v := range []version[int, string]{one, two, three} {
		if len(v.rows) != i+1 {
			t.Error(v.rows)
		}
		x.same(v)
	}
	x.get(three, 5, 3, 1, 0, 2, 4, 6)
	x.get(two, 5, 3, 1)
	x.get(one, 5, 3, 1)
}

// P11.1: of how many nodes there may be maps, and that there is none without a function that holds keys against each other.
func TestNew(t *testing.T) {
	up := cmp.Compare[int]
	for _, n := range []int{math.MinInt, math.MinInt + 1, -1 << 32, -1<<32 + 1, -2, -1, 1<<20 + 1, 1 << 21, 1 << 32, 1<<32 + 1, math.MaxInt} {
		if New[int, string](n, up) != nil || New[int, string](n, nil) != nil {
			t.Errorf("New(%v) isn't nil", n)
		}
	}
	for _, n := range []int{0, 1, 2, 77, 65536, 1<<20 - 1, 1 << 20} {
		if New[int, string](n, nil) != nil {
			t.Errorf("New(%v) without a function isn't nil", n)
		}
		x := ints(t, n)
		x.check()
		if x.m.Room() != n || x.m.Live() != 0 {
			t.Errorf("New(%v): Room %v", n, x.m.Room())
		}
		x.get(x.empty(), -1, 0, 1)
		x.delNone(x.empty(), 0)
		v, _, ok := x.put(x.empty(), 7, "a")
		if ok != (n > 0) || len(v.rows) != min(n, 1) {
			t.Errorf("of %v nodes, Put: %v", n, ok)
		}
	}
	if arena.Most != 1<<20 {
		t.Error(arena.Most)
	}
}

// P11.1: what nodes have, by numbers that are written out.
func TestLoad(t *testing.T) {
	m := New[int, string](9, cmp.Compare[int])
	a, _ := m.Put(api.Handle{}, 4, "four")
	b, _ := m.Put(a.Root, 9, "nine")
	if n, ok := m.Load(a.Root); n != (Node[int, string]{Key: 4, Val: "four", High: 1}) || !ok {
		t.Error(n, ok)
	}
	top, ok := m.Load(b.Root)
	if !ok || top.High != 2 || (top.Left == api.Handle{}) == (top.Right == api.Handle{}) {
		t.Fatal(top, ok)
	}
	other := Node[int, string]{Key: 4, Val: "four", High: 1}
	h := top.Left
	if top.Key == 4 {
		other, h = Node[int, string]{Key: 9, Val: "nine", High: 1}, top.Right
	}
	if n, ok := m.Load(h); n != other || !ok {
		t.Error(n, ok)
	}
	c, _ := m.Put(b.Root, 6, "six")
	top, _ = m.Load(c.Root)
	l, _ := m.Load(top.Left)
	r, _ := m.Load(top.Right)
	if top.Key != 6 || top.Val != "six" || top.High != 2 || l != (Node[int, string]{Key: 4, Val: "four", High: 1}) || r != (Node[int, string]{Key: 9, Val: "nine", High: 1}) {
		t.Error(top, l, r)
	}
}

// P11.1: Load and Free of each handle: of nodes, of none, of those that were freed, and of ones that were never told.
func TestHandles(t *testing.T) {
	const slots = 12
	for _, h := range append(wrongs(slots), api.Handle{Slot: slots, Gen: 1}, api.Handle{Slot: 1, Gen: 9}, api.Handle{Slot: 2, Gen: 9}) {
		x := ints(t, slots)
		x.m.Free(h)
		x.count()
		v := grow(x, []int{5, 2, 8, 1, 9, 3})
		if n, ok := x.m.Load(h); ok || n != (Node[int, string]{}) || x.m.Free(h) {
			t.Fatal(h, n, ok)
		}
		x.count()
		x.same(v)
		x.get(v, 0, 1, 2, 3, 4, 5, 6, 7, 8, 9)
	}
	x := ints(t, slots)
	var told []api.Handle
	v := x.empty()
	for _, k := range []int{5, 2, 8, 1, 9, 3, 2, 9} {
		n, e, _ := x.put(v, k, "x")
		told = append(told, e.Made...)
		x.gone(e)
		v = n
	}
	for i, h := range told {
		if slices.Contains(told[:i], h) {
			t.Errorf("%v was told twice", h)
		}
		n, ok := x.m.Load(h)
		if ok != x.lie[h] || n != v.nodes[h] {
			t.Errorf("%v: %v, %v", h, n, ok)
		}
	}
	for _, h := range told {
		live := x.m.Live()
		if ok := x.m.Free(h); ok != x.lie[h] || x.m.Free(h) {
			t.Errorf("%v: %v", h, ok)
		} else if ok {
			live--
		}
		delete(x.lie, h)
		x.count()
		if _, ok := x.m.Load(h); ok || x.m.Live() != live {
			t.Errorf("%v: %v lie there", h, x.m.Live())
		}
	}
	if x.m.Live() != 0 || x.m.Room() != slots {
		t.Error(x.m.Live(), x.m.Room())
	}
}

// P11.2: Get of keys that are there, and that are not, below all, between and above all.
func TestGet(t *testing.T) {
	for n := range 40 {
		for _, order := range orders(n) {
			x := ints(t, 200)
			v := grow(x, order)
			for k := -3; k <= 2*n+3; k++ {
				x.get(v, k)
			}
			x.get(v, math.MinInt, math.MaxInt, -1<<32, 1<<32)
			x.get(x.empty(), -1, 0, 1)
			x.check()
		}
	}
}

// P11.2: the zero value may be a value, and the zero key a key.
func TestZeros(t *testing.T) {
	x := ints(t, 20)
	if v, ok := x.m.Get(api.Handle{}, 0); v != "" || ok {
		t.Error(v, ok)
	}
	one, _, _ := x.put(x.empty(), 0, "")
	if v, ok := x.m.Get(one.root, 0); v != "" || !ok {
		t.Error(v, ok)
	}
	two, _, _ := x.put(one, 0, "b")
	three, _, _ := x.put(two, 0, "")
	x.get(two, 0)
	x.get(three, 0, 1)
	x.del(three, 0)
	x.check()
}

// P11.2: in versions of up to 6 keys, put in all orders, all that may be put and taken out once more; and all versions stay.
func TestAllOrders(t *testing.T) {
	for n := range 7 {
		permuted(rising(n), func(order []int) {
			x := ints(t, 400)
			v := x.empty()
			for _, k := range order {
				v, _, _ = x.put(v, k, text(k))
			}
			once(x, v, 2*n)
		})
	}
}

// once does each Put and Del of keys from -1 to most to a version, and holds it that all versions stand behind that.
func once(x *trial[int, string], v version[int, string], most int) {
	x.t.Helper()
	for k := -1; k <= most; k++ {
		if _, _, ok := x.put(v, k, "new"); !ok {
			x.t.Fatal("there isn't room")
		}
		if _, there := x.place(v, k); !there {
			x.delNone(v, k)
		} else if _, _, ok := x.del(v, k); !ok {
			x.t.Fatal("there isn't room")
		}
	}
	x.check()
}

// P11.2: of up to 5 keys, put in all orders, all are taken out, in all orders; the root of none is the zero handle.
func TestAllTaken(t *testing.T) {
	for n := range 6 {
		permuted(rising(n), func(order []int) {
			x := ints(t, 60)
			v := x.empty()
			for _, k := range order {
				v, _, _ = x.put(v, k, text(k))
			}
			stay := len(x.lie)
			permuted(rising(n), func(out []int) {
				w := v
				var made []api.Handle
				for _, k := range out {
					n, e, ok := x.del(w, k)
					if !ok {
						t.Fatal("there isn't room")
					}
					made = append(made, e.Made...)
					w = n
				}
				if w.root != (api.Handle{}) {
					t.Fatal(order, out, w.root)
				}
				x.gone(Edit{Gone: made})
				if len(x.lie) != stay {
					t.Fatal(len(x.lie), stay)
				}
			})
			x.check()
		})
	}
}

// P11.2, P11.3: in versions of more keys, in some orders, all that may be put and taken out once more.
func TestOrders(t *testing.T) {
	for _, n := range []int{7, 8, 9, 12, 15, 16, 17, 20, 31, 33} {
		for _, order := range orders(n) {
			x := ints(t, 4000)
			once(x, grow(x, order), 2*n)
		}
	}
}

// P11.2: keys are put, and taken out, one behind the other, in some orders, and each version on the way stays.
func TestInAndOut(t *testing.T) {
	for _, n := range []int{10, 40} {
		for i, order := range orders(n) {
			for j, out := range orders(n) {
				x := ints(t, 1000)
				v := x.empty()
				for _, k := range order {
					v, _, _ = x.put(v, k, text(k))
				}
				for _, k := range out {
					v, _, _ = x.del(v, k)
				}
				if v.root != (api.Handle{}) || len(x.all) != 2*n+1 {
					t.Fatal(i, j, v.root)
				}
				x.check()
			}
		}
	}
}

// P11.2: what is taken out has nothing below it, something on one side, or on both, and is the root, or isn't.
func TestDelOfEach(t *testing.T) {
	for _, c := range []struct {
		order []int
		out   int
		left  []int
	}{
		{[]int{1}, 1, nil},
		{[]int{1, 2}, 1, []int{2}},
		{[]int{1, 2}, 2, []int{1}},
		{[]int{2, 1}, 2, []int{1}},
		{[]int{2, 1}, 1, []int{2}},
		{[]int{2, 1, 3}, 1, []int{2, 3}},
		{[]int{2, 1, 3}, 2, []int{1, 3}},
		{[]int{2, 1, 3}, 3, []int{1, 2}},
		{[]int{2, 1, 4, 3}, 1, []int{2, 3, 4}}, // what is in the middle is lifted twice
		{[]int{2, 1, 3, 4}, 1, []int{2, 3, 4}},
		{[]int{3, 1, 4, 2}, 4, []int{1, 2, 3}},
		{[]int{3, 2, 4, 1}, 4, []int{1, 2, 3}},
		{[]int{3, 2, 4, 1}, 3, []int{1, 2, 4}},
		{[]int{3, 2, 4, 1}, 2, []int{1, 3, 4}},
		{[]int{2, 1, 3, 4}, 2, []int{1, 3, 4}},
		{[]int{4, 2, 6, 1, 3, 5, 7}, 4, []int{1, 2, 3, 5, 6, 7}},
		{[]int{4, 2, 6, 1, 3, 5, 7}, 2, []int{1, 3, 4, 5, 6, 7}},
		{[]int{4, 2, 6, 1, 3, 7}, 4, []int{1, 2, 3, 6, 7}},
		{[]int{4, 2, 6, 1, 3, 5}, 4, []int{1, 2, 3, 5, 6}},
		{[]int{5, 2, 7, 1, 3, 6, 8, 4}, 7, []int{1, 2, 3, 4, 5, 6, 8}},
		{[]int{5, 2, 7, 1, 3, 6, 8, 4}, 5, []int{1, 2, 3, 4, 6, 7, 8}},
		{[]int{5, 2, 7, 1, 3, 6, 4}, 6, []int{1, 2, 3, 4, 5, 7}}, // the middle one, from below, with what it has
	} {
		x := ints(t, 100)
		v := grow(x, c.order)
		n, e, ok := x.del(v, c.out)
		if !ok {
			t.Fatal(c)
		}
		var keys []int
		for _, r := range n.rows {
			keys = append(keys, r.key)
			if r.val != text(r.key) {
				t.Error(c, r)
			}
		}
		if !slices.Equal(keys, c.left) {
			t.Errorf("of %v without %v: %v", c.order, c.out, keys)
		}
		x.check()
		x.gone(e)
		x.same(n)
		if x.m.Live() != len(c.left) {
			t.Error(c, x.m.Live())
		}
	}
}

// P11.2 to P11.4: versions that are as high as they may be, of which each key is taken out, and keys are put between all.
func TestLowest(t *testing.T) {
	for high := range 9 {
		for _, mirrored := range []bool{false, true} {
			order := lowest(high, mirrored)
			x := ints(t, 40*len(order)+10)
			v := grow(x, order)
			if v.high() != high {
				t.Fatalf("%v keys have the High %v, not %v", len(order), v.high(), high)
			}
			for k := -1; k <= 2*len(order); k++ {
				n, e, ok := x.put(v, k, "new")
				if !ok {
					t.Fatal("there isn't room")
				}
				if _, there := x.place(v, k); there {
					x.gone(Edit{Gone: e.Made})
					n, e, ok = x.del(v, k)
				}
				if !ok || len(n.nodes) == len(v.nodes) {
					t.Fatal(k, ok)
				}
				x.gone(Edit{Gone: e.Made})
			}
			x.check()
		}
	}
}

// P11.2: versions are made of any that stand, which are chosen by chance, and none of them changes.
func TestVersionsStay(t *testing.T) {
	for seed := range 12 {
		x := ints(t, 2000)
		play(x, chance(seed, 450))
		x.check()
	}
}

// play makes versions of versions, as bytes say it, three of them for each; now and then what a version alone has is freed.
func play(x *trial[int, string], row []byte) {
	x.t.Helper()
	for ; len(row) >= 3; row = row[3:] {
		what, k := row[0]%16, int(row[1]%64)
		v := x.all[(len(x.all)-1)*int(row[2])/255]
		_, there := x.place(v, k)
		switch {
		case what < 9:
			x.put(v, k, text(int(row[2])))
		case there:
			x.del(v, k)
		case what < 15:
			x.delNone(v, k)
		case len(v.rows) > 0:
			x.drop(v)
			continue
		}
		x.get(v, k, k+1)
	}
}

// drop frees the nodes of a version that no other one has that stands.
func (x *trial[K, V]) drop(v version[K, V]) {
	x.t.Helper()
	x.all = slices.DeleteFunc(x.all, func(w version[K, V]) bool { return w.root == v.root })
	for h := range v.nodes {
		has := func(w version[K, V]) bool {
			_, ok := w.nodes[h]
			return ok
		}
		if slices.ContainsFunc(x.all, has) {
			continue
		}
		if !x.m.Free(h) {
			x.t.Fatalf("%v isn't freed", h)
		}
		delete(x.lie, h)
	}
	x.count()
}

// P11.2: what is gone is freed behind each edit, in a map in which slots are used again and again: the new version stands, and there are as many nodes as keys.
func TestGoneIsFreed(t *testing.T) {
	for seed := range 10 {
		const slots = 60
		x := ints(t, slots)
		v := x.empty()
		for i, c := range chance(seed, 2000) {
			k := int(c) % 40
			n, e, ok := v, Edit{}, true
			if _, there := x.place(v, k); there && i%3 != 0 {
				n, e, ok = x.del(v, k)
			} else {
				n, e, ok = x.put(v, k, text(i%30))
			}
			if !ok {
				t.Fatal("there isn't room")
			}
			x.gone(e)
			x.same(n)
			v = n
			if x.m.Live() != len(v.rows) || x.m.Room() != slots-len(v.rows) {
				t.Fatal(x.m.Live(), len(v.rows))
			}
		}
		for _, r := range v.rows {
			n, e, _ := x.del(v, r.key)
			x.gone(e)
			v = n
		}
		if x.m.Live() != 0 || v.root != (api.Handle{}) {
			t.Error(x.m.Live(), v.root)
		}
	}
}

// P11.2: made, too, may be freed, instead of what is gone: then the old version stands alone again.
func TestMadeIsFreed(t *testing.T) {
	x := ints(t, 100)
	v := grow(x, shuffled(rising(30), 5))
	for k := -1; k <= 60; k++ {
		n, e, _ := x.put(v, k, "new")
		x.gone(Edit{Gone: e.Made})
		if k >= 0 && k < 60 && k%2 == 0 {
			n, e, _ = x.del(v, k)
			x.gone(Edit{Gone: e.Made})
		}
		if _, ok := x.m.Load(n.root); ok || x.m.Live() != 30 {
			t.Fatal(k, x.m.Live())
		}
		x.same(v)
	}
}

// P11.3: with as many slots free as nodes are made it is done; with fewer, of each number from none up, nothing is.
func TestRoom(t *testing.T) {
	for _, n := range []int{0, 1, 2, 3, 4, 5, 7, 8, 11, 12, 16, 20} {
		for _, order := range append(orders(n)[3:], orders(n)[0]) {
			for k := -1; k <= 2*n; k++ {
				testRoom(t, order, func(x *trial[int, string], v version[int, string]) (Edit, bool) {
					_, e, ok := x.put(v, k, "new")
					return e, ok
				})
			}
			for _, k := range order {
				testRoom(t, order, func(x *trial[int, string], v version[int, string]) (Edit, bool) {
					_, e, ok := x.del(v, k)
					return e, ok
				})
			}
		}
	}
	for high := 3; high < 7; high++ {
		for _, mirrored := range []bool{false, true} {
			order := lowest(high, mirrored)
			for _, k := range order {
				testRoom(t, order, func(x *trial[int, string], v version[int, string]) (Edit, bool) {
					_, e, ok := x.del(v, k)
					return e, ok
				})
			}
		}
	}
}

// testRoom does one thing to a version of keys put in an order, with plenty of room, and with each number of free slots up to what that took.
func testRoom(t *testing.T, order []int, do func(x *trial[int, string], v version[int, string]) (Edit, bool)) {
	t.Helper()
	x := ints(t, 300)
	e, ok := do(x, grow(x, order))
	if !ok {
		t.Fatal("there isn't room, of plenty")
	}
	need := len(e.Made)
	y := ints(t, 2*len(order)+60)
	v := grow(y, order)
	y.fill(need, 1000, "fill")
	for free := need - 1; free >= 0; free-- {
		y.fill(free, 1000, "fill")
		if e, ok := do(y, v); ok {
			t.Fatalf("of %v, with %v free, %v are made", order, free, e.Made)
		}
		y.same(v)
	}
	y.check()
	fillers := y.all[2:]
	for free := range need {
		y.gone(Edit{Gone: []api.Handle{fillers[len(fillers)-1-free].root}})
	}
	again, ok := do(y, v)
	if !ok || len(again.Made) != need || len(again.Gone) != len(e.Gone) {
		t.Fatalf("of %v, with %v free: %v, %v", order, need, again, ok)
	}
	if y.m.Room() != 0 {
		t.Fatal(y.m.Room())
	}
	y.check()
}

// P11.2: of a key that isn't there there is nothing to take out, whether there is room or not.
func TestDelOfNone(t *testing.T) {
	for _, free := range []int{0, 1, 30} {
		x := ints(t, 100)
		v := grow(x, shuffled(rising(20), 3))
		x.fill(free, 1000, "fill")
		for k := -3; k <= 43; k++ {
			if _, there := x.place(v, k); !there {
				x.delNone(v, k)
			}
		}
		x.check()
	}
}

// P11.2: what isn't done leaves no mark: two maps to which the same is done, but that one is asked in vain besides, tell the same handles.
func TestNothingIsDone(t *testing.T) {
	for seed := range 10 {
		const slots = 26
		a, b := New[int, string](slots, cmp.Compare[int]), New[int, string](slots, cmp.Compare[int])
		var root api.Handle
		var late []api.Handle
		vain := 0
		for _, c := range chance(seed, 1500) {
			k := int(c) % 20
			edit := (*Map[int, string]).Del
			if c >= 100 {
				edit = func(m *Map[int, string], root api.Handle, k int) (Edit, bool) { return m.Put(root, k, "x") }
			}
			e, ok := edit(a, root, k)
			if !ok {
				vain++
				if a.Room() != b.Room() || a.Live() != b.Live() {
					t.Fatal("something was done")
				}
			} else {
				f, _ := edit(b, root, k)
				if e.Root != f.Root || !slices.Equal(e.Made, f.Made) || !slices.Equal(e.Gone, f.Gone) {
					t.Fatalf("%v, not %v", e, f)
				}
				root = e.Root
				late = append(late, e.Gone...)
			}
			if ok && c%4 != 0 {
				continue
			}
			for _, h := range late {
				a.Free(h)
				b.Free(h)
			}
			late = nil
		}
		if vain < 50 {
			t.Error(seed, vain)
		}
	}
}

// P11.3: where no side is too high, only the nodes of the way are made again.
func TestOnlyTheWayIsMade(t *testing.T) {
	x := ints(t, 300)
	v := x.empty()
	if _, e, _ := x.put(v, 1, "a"); len(e.Made) != 1 || len(e.Gone) != 0 {
		t.Error(e)
	}
	x = ints(t, 300)
	v = grow(x, []int{8, 4, 12, 2, 6, 10, 14, 1, 3, 5, 7, 9, 11, 13, 15})
	for k, deep := range map[int]int{8: 1, 4: 2, 12: 2, 2: 3, 14: 3, 1: 4, 15: 4, 7: 4} {
		if _, e, _ := x.put(v, k, "a"); len(e.Made) != deep || len(e.Gone) != deep {
			t.Error("put", k, e)
		}
	}
	for _, k := range []int{0, 16} {
		if _, e, _ := x.put(v, k, "a"); len(e.Made) != 5 || len(e.Gone) != 4 {
			t.Error("put", k, e)
		}
	}
	for _, k := range []int{1, 3, 5, 7, 9, 11, 13, 15} {
		if _, e, _ := x.del(v, k); len(e.Made) != 3 || len(e.Gone) != 4 {
			t.Error("del", k, e)
		}
	}
}

// P11.4: of very many nodes, in rising, falling and other orders, the High is bounded, by words and by numbers that are written out.
func TestHigh(t *testing.T) {
	const many = 20000
	for i, order := range orders(many) {
		m := New[int, bool](many+100, cmp.Compare[int])
		var root api.Handle
		for n, k := range order {
			e, ok := m.Put(root, k, true)
			if !ok {
				t.Fatal("there isn't room")
			}
			for _, h := range e.Gone {
				m.Free(h)
			}
			root = e.Root
			top, _ := m.Load(root)
			if 2*top.High > 3*bits.Len(uint(n+1))+4 || 1<<top.High <= n+1 {
				t.Fatalf("%v nodes in the order %v have the High %v", n+1, i, top.High)
			}
		}
		for n, k := range order[:many-1] {
			e, ok := m.Del(root, k)
			if !ok {
				t.Fatal("it isn't there")
			}
			for _, h := range e.Gone {
				m.Free(h)
			}
			root = e.Root
			top, _ := m.Load(root)
			if 2*top.High > 3*bits.Len(uint(many-n-1))+4 || m.Live() != many-n-1 {
				t.Fatalf("%v nodes in the order %v have the High %v", many-n-1, i, top.High)
			}
		}
	}
	for _, c := range []struct{ n, most int }{{0, 0}, {1, 1}, {2, 2}, {3, 2}, {4, 3}, {7, 4}, {12, 5}, {20, 6}, {33, 7}} {
		for _, order := range orders(c.n) {
			x := ints(t, 100)
			if v := grow(x, order); v.high() > c.most {
				t.Errorf("%v nodes have the High %v", c.n, v.high())
			}
		}
	}
}

// pair is a key of two parts.
type pair struct {
	a int
	b string
}

// P11.2: keys of other types, in other orders, and with values of other types.
func TestTypes(t *testing.T) {
	t.Run("texts", func(t *testing.T) { testTypes(t, strings.Compare, text, func(n int) int { return n }) })
	t.Run("falling", func(t *testing.T) {
		testTypes(t, func(a, b int) int { return cmp.Compare(b, a) }, func(n int) int { return n }, text)
	})
	t.Run("differences", func(t *testing.T) {
		testTypes(t, func(a, b int) int { return a - b }, func(n int) int { return 1000 * n }, func(n int) bool { return n%2 == 0 })
	})
	t.Run("ends", func(t *testing.T) {
		far := func(a, b int) int { return []int{math.MinInt, 0, math.MaxInt}[1+cmp.Compare(a, b)] }
		testTypes(t, far, func(n int) int { return n - 20 }, func(n int) *int { return nil })
	})
	t.Run("floats", func(t *testing.T) {
		testTypes(t, cmp.Compare[float64], func(n int) float64 { return float64(n)/3 - 5 }, func(n int) float64 { return float64(n) / 7 })
	})
	t.Run("structs", func(t *testing.T) {
		by := func(a, b pair) int { return cmp.Or(b.a-a.a, strings.Compare(a.b, b.b)) }
		testTypes(t, by, func(n int) pair { return pair{n % 5, text(n)} }, func(n int) pair { return pair{n, ""} })
	})
	t.Run("bytes", func(t *testing.T) {
		testTypes(t, func(a, b uint8) int { return 7 * (int(a) - int(b)) }, func(n int) uint8 { return uint8(n * 6) }, func(n int) struct{} { return struct{}{} })
	})
	t.Run("anything", func(t *testing.T) {
		by := func(a, b any) int { return len(a.(string)) - len(b.(string)) }
		testTypes(t, by, func(n int) any { return strings.Repeat("z", n) }, func(n int) any { return []any{nil, n, text(n), pair{n, "x"}}[n%4] })
	})
}

func testTypes[K, V comparable](t *testing.T, by func(a, b K) int, key func(n int) K, val func(n int) V) {
	const many = 40
	for seed := range 4 {
		x := start[K, V](t, 2000, by)
		v := x.empty()
		for _, n := range shuffled(rising(many/2), seed) {
			v, _, _ = x.put(v, key(n), val(n))
		}
		full := v
		for n := range many {
			x.get(full, key(n))
			if n%2 == 1 {
				x.delNone(full, key(n))
			}
			x.put(full, key(n), val(n+1))
		}
		for _, n := range shuffled(rising(many/2), seed+100) {
			v, _, _ = x.del(v, key(n))
		}
		if v.root != (api.Handle{}) {
			t.Error(v.root)
		}
		x.check()
		for free := range 3 {
			x.fill(free, key(1), val(1))
			if _, e, ok := x.put(full, key(39), val(39)); ok {
				t.Error(e)
			}
		}
	}
}

// P11.2: of keys that are the same as the function holds them, the one that was put last has its value, and stands there with it.
func TestSameKeys(t *testing.T) {
	by := func(a, b string) int { return len(a) - len(b) }
	x := start[string, int](t, 100, by)
	v := x.empty()
	for i, k := range []string{"bb", "a", "ccc", "BB", "A", "CCC", "dddd"} {
		v, _, _ = x.put(v, k, i)
	}
	if want := []row[string, int]{{"A", 4}, {"BB", 3}, {"CCC", 5}, {"dddd", 6}}; !slices.Equal(v.rows, want) {
		t.Error(v.rows)
	}
	x.get(v, "x", "xx", "xxx", "xxxx", "xxxxx", "")
	n, _, _ := x.del(v, "yy")
	if len(n.rows) != 3 {
		t.Error(n.rows)
	}
	x.check()
}

// R1: a function that tells anything ends no call in a panic, and nothing is lost of the slots.
func TestWildFunction(t *testing.T) {
	for seed := range 20 {
		c := chance(seed, 997)
		asked := 0
		wild := func(a, b int) int {
			asked++
			return int(c[asked%len(c)])%[]int{3, 2, 7, 60}[seed%4] - seed%3
		}
		const slots = 300
		m := New[int, int](slots, wild)
		var root api.Handle
		lie := 0
		for i, x := range chance(seed+50, 3000) {
			m.Get(root, i)
			e, ok := m.Put(root, int(x), i)
			if x%2 == 0 {
				if !ok {
					continue
				}
				for _, h := range e.Made {
					m.Free(h)
				}
				e, ok = m.Del(root, int(x))
			}
			if !ok {
				continue
			}
			for _, h := range e.Gone {
				if !m.Free(h) {
					t.Fatal(h)
				}
			}
			lie += len(e.Made) - len(e.Gone)
			root = e.Root
			if m.Live() != lie || m.Room() != slots-lie {
				t.Fatal(m.Live(), lie)
			}
		}
	}
}

// R5: lists that were told may be changed by who was told them, and are not changed by what is done later.
func TestListsAreOwn(t *testing.T) {
	x := ints(t, 3000)
	v := x.empty()
	var kept []Edit
	var were [][]api.Handle
	for i, c := range chance(4, 200) {
		k := int(c) % 50
		n, e, ok := v, Edit{}, true
		if _, there := x.place(v, k); there && i%2 == 0 {
			n, e, ok = x.del(v, k)
		} else {
			n, e, ok = x.put(v, k, text(i))
		}
		if !ok {
			t.Fatal("there isn't room")
		}
		v = n
		if i%3 == 0 {
			kept = append(kept, e)
			were = append(were, slices.Clone(e.Made), slices.Clone(e.Gone))
			continue
		}
		spoil(e.Made)
		for _, h := range e.Gone {
			if h == spoilt {
				t.Fatal("both lists share")
			}
		}
		spoil(e.Gone)
		x.same(v)
	}
	x.check()
	for i, e := range kept {
		if !slices.Equal(e.Made, were[2*i]) || !slices.Equal(e.Gone, were[2*i+1]) {
			t.Error(i, e)
		}
	}
}

// spoilt is a handle that no map tells.
var spoilt = api.Handle{Slot: -99, Gen: -99}

// spoil changes a list, and all of its memory that lies behind it.
func spoil(l []api.Handle) {
	l = l[:cap(l)]
	for i := range l {
		l[i] = spoilt
	}
}

// R5: a node that was loaded is a thing of its own.
func TestLoadedIsOwn(t *testing.T) {
	x := ints(t, 30)
	v := grow(x, []int{5, 3, 8, 1})
	for h := range v.nodes {
		n, _ := x.m.Load(h)
		n.Key, n.Val, n.Left, n.Right, n.High = 99, "z", spoilt, spoilt, -1
	}
	x.check()
}

// R6: two maps are two.
func TestTwoAreTwo(t *testing.T) {
	a, b := ints(t, 600), ints(t, 500)
	c := chance(8, 900)
	for i := 0; i+30 <= len(c); i += 30 {
		one, other := a, b
		if c[i]%2 == 0 {
			one, other = b, a
		}
		play(one, c[i:i+30])
		other.check()
	}
	a.check()
	b.check()
}

// What couldn't be put isn't kept, nor what was freed.
func TestNothingIsKept(t *testing.T) {
	m := New[int, *[1 << 16]byte](3, cmp.Compare[int])
	e, _ := m.Put(api.Handle{}, 1, nil)
	e, _ = m.Put(e.Root, 2, nil)
	in := func() (weak.Pointer[[1 << 16]byte], bool) {
		v := new([1 << 16]byte)
		_, ok := m.Put(e.Root, 3, v)
		return weak.Make(v), ok
	}
	p, ok := in()
	runtime.GC()
	if ok || p.Value() != nil {
		t.Error("what couldn't be put is kept", ok)
	}
	m.Free(e.Gone[0])
	freed := func() weak.Pointer[[1 << 16]byte] {
		v := new([1 << 16]byte)
		e, ok := m.Put(api.Handle{}, 3, v)
		if !ok || !m.Free(e.Root) {
			t.Error("it isn't put, or freed")
		}
		return weak.Make(v)
	}
	p = freed()
	runtime.GC()
	if p.Value() != nil {
		t.Error("what was freed is kept")
	}
	runtime.KeepAlive(m)
}

// FuzzMap makes versions of versions, as bytes say it, in maps with much room, and with little.
func FuzzMap(f *testing.F) {
	f.Add([]byte{0, 1, 2, 0, 2, 255, 10, 1, 255}, uint8(200))
	f.Add(chance(1, 300), uint8(255))
	f.Add(chance(2, 300), uint8(20))
	f.Fuzz(func(t *testing.T, row []byte, slots uint8) {
		x := ints(t, int(slots))
		play(x, row[:min(len(row), 600)])
		x.check()
	})
}

// FuzzOne goes on with one version, in a map with as little room as it may have for that.
func FuzzOne(f *testing.F) {
	f.Add(chance(3, 100))
	f.Add([]byte{1, 2, 3, 4, 5, 6, 7, 8, 129, 130, 131})
	f.Fuzz(func(t *testing.T, row []byte) {
		x := ints(t, 150)
		v := x.empty()
		for _, c := range row[:min(len(row), 600)] {
			k := int(c) % 128
			n, e, ok := v, Edit{}, true
			if _, there := x.place(v, k); there && c >= 128 {
				n, e, ok = x.del(v, k)
			} else {
				n, e, ok = x.put(v, k, text(k))
			}
			// With 3 times the High, and 1, there is always room.
			if !ok && x.m.Room() > 3*v.high() {
				t.Fatal(x.m.Room(), v.high())
			}
			if ok {
				x.gone(e)
				v = n
			}
		}
		x.check()
	})
}
