package view

import (
	"cmp"
	"math"
	"slices"
	"strings"
	"testing"
	"unicode/utf8"
	"unsafe"

	"holt/api"
	"holt/arena"
	"holt/pmap"
)

// words is a version by the chapter's words: where each node is that is anywhere.
type words map[int]api.Spot

// with is another one, in which a node is at a spot, or nowhere.
func (w words) with(n int, s api.Spot) words {
	l := words{}
	for m, at := range w {
		if m != n {
			l[m] = at
		}
	}
	if s.In {
		l[n] = s
	}
	return l
}

// kids are all nodes, below which one and by which name: sorted three times, so that the first key is sorted by last.
func (w words) kids() []api.Kid {
	var l []api.Kid
	for n, s := range w {
		l = append(l, api.Kid{To: s.To, Name: s.Name, Node: n})
	}
	slices.SortFunc(l, func(a, b api.Kid) int { return cmp.Compare(a.Node, b.Node) })
	slices.SortStableFunc(l, func(a, b api.Kid) int { return slices.Compare([]byte(a.Name), []byte(b.Name)) })
	slices.SortStableFunc(l, func(a, b api.Kid) int { return cmp.Compare(a.To, b.To) })
	return l
}

// list are those right below a node.
func (w words) list(n int) (l []api.Kid) {
	for _, k := range w.kids() {
		if k.To == n {
			l = append(l, k)
		}
	}
	return l
}

// find goes down a path, as chapter 7's words say it.
func (w words) find(path string) (int, api.Errno) {
	if !isPath(path) {
		return 0, api.ErrName
	}
	at := 0
	for _, s := range strings.Split(path, "/")[1:] {
		if path == "/" {
			break
		}
		i := slices.IndexFunc(w.list(at), func(k api.Kid) bool { return k.Name == s })
		if i < 0 {
			return 0, api.ErrNone
		}
		at = w.list(at)[i].Node
	}
	return at, api.OK
}

// isName tells whether a text is a name, as chapter 3's words say it.
func isName(s string) bool {
	wrong := func(r rune) bool { return r < 32 || r == 127 || r == '/' }
	return len(s) >= 1 && len(s) <= 20 && utf8.ValidString(s) && !strings.ContainsFunc(s, wrong)
}

// isPath tells whether a text is a path, as chapter 3's words say it.
func isPath(s string) bool {
	l := strings.Split(s, "/")
	wrong := func(s string) bool { return !isName(s) }
	return s == "/" || len(s) <= 400 && len(l) > 1 && l[0] == "" && !slices.ContainsFunc(l[1:], wrong)
}

// version is one that stands, as it was when it was told: by the words, and all nodes of both maps.
type version struct {
	Version
	at    words
	kids  map[api.Handle]pmap.Node[api.Kid, bool]
	spots map[api.Handle]pmap.Node[int, api.Spot]
}

// lay are the handles of what lies in a map.
type lay map[api.Handle]bool

// trial is a store that is held against the words: its versions that stand, the one of zeros first, and which nodes lie there.
type trial struct {
	t           *testing.T
	s           *Store
	most        int
	all         []version
	kids, spots lay
	// fillers are nodes that take room.
	fillers Trace
}

func start(t *testing.T, most int) *trial {
	t.Helper()
	s := New(most)
	if s == nil {
		t.Fatalf("New(%v) is nil", most)
	}
	return &trial{t: t, s: s, most: most, all: []version{{at: words{}}}, kids: lay{}, spots: lay{}}
}

// zeros is the version of zeros, with a number.
func (x *trial) zeros(n int) version {
	v := x.all[0]
	v.N = n
	return v
}

// walk goes through a map's version in order, and tells its nodes; their sides and heights are held against chapter 11's words.
func walk[K, V any](t *testing.T, m *pmap.Map[K, V], root api.Handle) (rows []pmap.Node[K, V], nodes map[api.Handle]pmap.Node[K, V]) {
	t.Helper()
	nodes = map[api.Handle]pmap.Node[K, V]{}
	var down func(h api.Handle) int
	down = func(h api.Handle) int {
		if h == (api.Handle{}) {
			return 0
		}
		n, ok := m.Load(h)
		if _, twice := nodes[h]; !ok || twice {
			t.Fatalf("of %v, %v is there: %v, is there twice: %v", root, h, ok, twice)
		}
		nodes[h] = n
		a := down(n.Left)
		rows = append(rows, n)
		b := down(n.Right)
		if n.High != 1+max(a, b) || a-b > 1 || b-a > 1 {
			t.Fatalf("%v has the High %v, on sides of %v and %v", n.Key, n.High, a, b)
		}
		return n.High
	}
	down(root)
	return rows, nodes
}

// look goes through both maps of a version, and holds them against the words.
func (x *trial) look(v Version, at words) version {
	x.t.Helper()
	kids, kidNodes := walk(x.t, x.s.Kids, v.Kids)
	spots, spotNodes := walk(x.t, x.s.Spots, v.Spots)
	want := at.kids()
	if len(kids) != len(want) || len(spots) != len(want) {
		x.t.Fatalf("%v has %v kids, and %v spots, of %v", v, len(kids), len(spots), want)
	}
	for i, k := range want {
		if kids[i].Key != k || !kids[i].Val {
			x.t.Fatalf("the kid at %v is %v, %v, not %v", i, kids[i].Key, kids[i].Val, k)
		}
	}
	for i, s := range spots {
		if s.Val != at[s.Key] || i > 0 && spots[i-1].Key >= s.Key {
			x.t.Fatalf("%v is at %v, not at %v", s.Key, s.Val, at[s.Key])
		}
	}
	return version{Version: v, at: at, kids: kidNodes, spots: spotNodes}
}

// same holds a version against what it was when it was told, node by node.
func (x *trial) same(v version) {
	x.t.Helper()
	now := x.look(v.Version, v.at)
	alike(x.t, now.kids, v.kids)
	alike(x.t, now.spots, v.spots)
}

func alike[N comparable](t *testing.T, now, were map[api.Handle]N) {
	t.Helper()
	if len(now) != len(were) {
		t.Fatalf("%v nodes were %v", len(now), len(were))
	}
	for h, n := range were {
		if now[h] != n {
			t.Fatalf("the node %v is %v, and was %v", h, now[h], n)
		}
	}
}

// count holds what lies in both maps against what must lie there.
func (x *trial) count() {
	x.t.Helper()
	counted(x.t, x.s.Kids, x.kids, x.most)
	counted(x.t, x.s.Spots, x.spots, x.most)
}

func counted[K, V any](t *testing.T, m *pmap.Map[K, V], l lay, most int) {
	t.Helper()
	if m.Live() != len(l) || m.Room() != most-len(l) {
		t.Fatalf("Live %v, Room %v; %v of %v lie there", m.Live(), m.Room(), len(l), most)
	}
	for h := range l {
		if _, ok := m.Load(h); !ok {
			t.Fatalf("%v isn't there", h)
		}
	}
}

// check holds all versions that stand against what they were.
func (x *trial) check() {
	x.t.Helper()
	for _, v := range x.all {
		x.same(v)
	}
	x.count()
}

// high is a version's High in both maps.
func (v version) high() (kids, spots int) { return v.kids[v.Kids].High, v.spots[v.Spots].High }

// set sets a change, and holds what is told, and what lies there, against the words; false, if nothing was done.
func (x *trial) set(v version, c api.Change) (version, Trace, bool) {
	x.t.Helper()
	to := c.New
	if !to.In {
		to = api.Spot{}
	}
	kids, spots := v.high()
	sure := x.s.Kids.Room() >= 6*kids+2 && x.s.Spots.Room() >= 6*spots+2
	next, tr, ok := x.s.Set(v.Version, c)
	if to == c.Old || v.at[c.Node] != c.Old {
		if ok {
			x.t.Fatalf("%v was done, of %v", c, v.at)
		}
		sure = false
	}
	if !ok {
		if sure {
			x.t.Fatalf("%v wasn't done, with %v and %v free, and the Highs %v and %v", c, x.s.Kids.Room(), x.s.Spots.Room(), kids, spots)
		}
		x.none(next, tr)
		return version{}, tr, false
	}
	if next.N != v.N {
		x.t.Fatalf("the number %v, not %v", next.N, v.N)
	}
	n := x.look(next, v.at.with(c.Node, to))
	differ(x.t, tr.KidsMade, n.kids, v.kids)
	differ(x.t, tr.KidsGone, v.kids, n.kids)
	differ(x.t, tr.SpotsMade, n.spots, v.spots)
	differ(x.t, tr.SpotsGone, v.spots, n.spots)
	x.kids.add(x.t, tr.KidsMade)
	x.spots.add(x.t, tr.SpotsMade)
	x.count()
	x.same(v)
	x.all = append(x.all, n)
	return n, tr, true
}

// none holds it that nothing was told, and nothing was done.
func (x *trial) none(v Version, tr Trace) {
	x.t.Helper()
	if v != (Version{}) || len(tr.KidsMade)+len(tr.KidsGone)+len(tr.SpotsMade)+len(tr.SpotsGone) != 0 {
		x.t.Fatalf("beside false there is told %v, %v", v, tr)
	}
	x.count()
}

// differ holds it that just those nodes are told that one version has, and another one hasn't, each once.
func differ[N any](t *testing.T, told []api.Handle, has, hasnt map[api.Handle]N) {
	t.Helper()
	want := lay{}
	for h := range has {
		if _, too := hasnt[h]; !too {
			want[h] = true
		}
	}
	if len(told) != len(want) {
		t.Fatalf("%v are told, not %v", told, want)
	}
	for _, h := range told {
		if !want[h] {
			t.Fatalf("%v are told, not %v", told, want)
		}
		delete(want, h)
	}
}

func (l lay) add(t *testing.T, made []api.Handle) {
	t.Helper()
	for _, h := range made {
		if l[h] {
			t.Fatalf("%v was there already", h)
		}
		l[h] = true
	}
}

// must is set, where there is room, and the change can be done.
func (x *trial) must(v version, c api.Change) (version, Trace) {
	x.t.Helper()
	n, tr, ok := x.set(v, c)
	if !ok {
		x.t.Fatalf("%v can't be done, of %v", c, v.at)
	}
	return n, tr
}

// move puts a node somewhere, wherever it is.
func (x *trial) move(v version, n int, s api.Spot) version {
	x.t.Helper()
	next, _ := x.must(v, api.Change{Node: n, Old: v.at[n], New: s})
	return next
}

// free frees nodes of both maps, and holds it that so many are told as lay there; versions that had one of them don't stand behind that.
func (x *trial) free(kids, spots []api.Handle) {
	x.t.Helper()
	want := x.kids.out(kids) + x.spots.out(spots)
	if got := x.s.Free(kids, spots); got != want {
		x.t.Fatalf("Free(%v, %v) = %v, not %v", kids, spots, got, want)
	}
	x.count()
	x.all = slices.DeleteFunc(x.all, func(v version) bool {
		for h := range v.kids {
			if !x.kids[h] {
				return true
			}
		}
		for h := range v.spots {
			if !x.spots[h] {
				return true
			}
		}
		return false
	})
}

// out takes handles out, and tells how many there were.
func (l lay) out(gone []api.Handle) int {
	lay := len(l)
	for _, h := range gone {
		delete(l, h)
	}
	return lay - len(l)
}

// release frees what one version alone has, of all that stand.
func (x *trial) release(v version) {
	x.t.Helper()
	if v.Version == x.all[0].Version {
		return
	}
	var kids, spots []api.Handle
	for h := range v.kids {
		if !slices.ContainsFunc(x.all, func(w version) bool { return w.Version != v.Version && has(w.kids, h) }) {
			kids = append(kids, h)
		}
	}
	for h := range v.spots {
		if !slices.ContainsFunc(x.all, func(w version) bool { return w.Version != v.Version && has(w.spots, h) }) {
			spots = append(spots, h)
		}
	}
	x.free(kids, spots)
	x.all = slices.DeleteFunc(x.all, func(w version) bool { return w.Version == v.Version })
}

func has[N any](l map[api.Handle]N, h api.Handle) bool {
	_, ok := l[h]
	return ok
}

// ask holds Spot, List and Find against the words.
func (x *trial) ask(v version, nodes []int, paths []string) {
	x.t.Helper()
	for _, n := range nodes {
		if got := x.s.Spot(v.Version, n); got != v.at[n] {
			x.t.Fatalf("Spot(%v) = %v, not %v", n, got, v.at[n])
		}
		if got := x.s.List(v.Version, n); !slices.Equal(got, v.at.list(n)) {
			x.t.Fatalf("List(%v) = %v, not %v", n, got, v.at.list(n))
		}
	}
	for _, p := range paths {
		n, e := v.at.find(p)
		if got, err := x.s.Find(v.Version, p); got != n || err != e {
			x.t.Fatalf("Find(%q) = %v, %v, not %v, %v", p, got, err, n, e)
		}
	}
	x.count()
}

// grow is a version of these kids, which were put in this order; what is gone is freed.
func (x *trial) grow(n int, l []api.Kid) version {
	x.t.Helper()
	v := x.zeros(n)
	for _, k := range l {
		next, tr := x.must(v, api.Change{Node: k.Node, Old: v.at[k.Node], New: at(k.To, k.Name)})
		x.free(tr.KidsGone, tr.SpotsGone)
		v = next
	}
	return v
}

// at is a spot.
func at(to int, name string) api.Spot { return api.Spot{In: true, To: to, Name: name} }

// nodes are so many kids below the root, the trash, and one another, by few names.
func nodes(many int) []api.Kid {
	names := []string{"a", "b", "\u00e9", "ab", "~"}
	var l []api.Kid
	for i := range many {
		l = append(l, api.Kid{To: []int{0, 256, 1, 256 + i/2}[i%4], Name: names[i*7%5], Node: 256 + i})
	}
	return l
}

// shuffled are these in an order that is the same for the same seed.
func shuffled[T any](l []T, seed int) []T {
	l = slices.Clone(l)
	c := chance(seed, 2*len(l))
	for i := range l {
		j := i + (int(c[2*i])<<8+int(c[2*i+1]))%(len(l)-i)
		l[i], l[j] = l[j], l[i]
	}
	return l
}

// chance are so many bytes, the same for the same seed.
func chance(seed, long int) []byte {
	l := make([]byte, long)
	x := uint64(seed)*2862933555777941757 + 3037000493
	for i := range l {
		x = x*6364136223846793005 + 1442695040888963407
		l[i] = byte(x >> 33)
	}
	return l
}

// noPaths are texts that aren't paths.
func noPaths() []string {
	return []string{"", "a", "a/", "a/b", " ", "//", "/a/", "//a", "/a//b", "/a/b/", " /a", "/\x00", "/a\n", "/\x7f", "/\xff", "/" + strings.Repeat("n", 21), "/a/" + strings.Repeat("n", 21), strings.Repeat("/a", 201), strings.Repeat("/a", 199) + "/bcd"}
}

// asked are nodes that are asked for, and many that are in no version.
func asked() []int {
	l := []int{math.MinInt, math.MinInt + 1, -256, -1, 2, 255, 1 << 32, math.MaxInt - 1, math.MaxInt}
	for n := range 2 {
		l = append(l, n)
	}
	for n := range 24 {
		l = append(l, 256+n)
	}
	return l
}

// paths are such, and some that aren't any.
func paths() []string {
	l := append(noPaths(), "/")
	for _, a := range []string{"/a", "/b", "/ab", "/~", "/\u00e9", "/c"} {
		l = append(l, a)
		for _, b := range []string{"/a", "/b", "/\u00e9"} {
			l = append(l, a+b, a+b+"/a", a+b+"/~", a+b+"/a/a")
		}
	}
	return l
}

func TestExample(t *testing.T) {
	x := start(t, 4)
	v, tr := x.must(x.zeros(0), api.Change{Node: 256, New: at(0, "a")})
	if len(tr.KidsMade) != 1 || len(tr.SpotsMade) != 1 || len(tr.KidsGone) != 0 || len(tr.SpotsGone) != 0 {
		t.Error(tr)
	}
	if l := x.s.List(v.Version, 0); !slices.Equal(l, []api.Kid{{To: 0, Name: "a", Node: 256}}) {
		t.Error(l)
	}
	if n, e := x.s.Find(v.Version, "/a"); n != 256 || e != api.OK {
		t.Error(n, e)
	}
}

// P12.1: of how many nodes there may be stores; both maps have as many.
func TestNew(t *testing.T) {
	for _, n := range []int{math.MinInt, math.MinInt + 1, -1 << 32, -1<<32 + 1, -2, -1, 1<<20 + 1, 1 << 21, 1 << 32, 1<<32 + 1, math.MaxInt} {
		if New(n) != nil {
			t.Errorf("New(%v) isn't nil", n)
		}
	}
	for _, n := range []int{0, 1, 2, 77, 65536, 1<<20 - 1, 1 << 20} {
		x := start(t, n)
		x.check()
		x.ask(x.zeros(3), asked(), paths())
		_, _, ok := x.set(x.zeros(3), api.Change{Node: 256, New: at(0, "a")})
		if ok != (n > 0) {
			t.Errorf("of %v nodes: %v", n, ok)
		}
	}
	if arena.Most != 1<<20 {
		t.Error(arena.Most)
	}
}

// P12.1: a map of a store is in Cmp's order, and Spots in that of numbers, whoever puts something there.
func TestMaps(t *testing.T) {
	s := New(9)
	a, _ := s.Kids.Put(api.Handle{}, api.Kid{To: 1, Name: "b", Node: 3}, true)
	if ok, there := s.Kids.Get(a.Root, api.Kid{To: 1, Name: "b", Node: 3}); !ok || !there {
		t.Error(ok, there)
	}
	for _, k := range []api.Kid{{To: 1, Name: "b", Node: 2}, {To: 1, Name: "a", Node: 3}, {To: 0, Name: "b", Node: 3}} {
		if _, there := s.Kids.Get(a.Root, k); there {
			t.Error(k)
		}
		b, _ := s.Kids.Put(a.Root, k, true)
		if n, _ := s.Kids.Load(b.Root); n.High != 2 || n.Right == (api.Handle{}) && n.Left == (api.Handle{}) {
			t.Error(k, n)
		}
		s.Free(b.Made, nil)
	}
	c, _ := s.Spots.Put(api.Handle{}, 5, at(0, "a"))
	d, _ := s.Spots.Put(c.Root, 3, at(0, "b"))
	if n, _ := s.Spots.Load(d.Root); n.Key != 3 && n.Key != 5 {
		t.Error(n)
	}
	if v, ok := s.Spots.Get(d.Root, 3); v != at(0, "b") || !ok {
		t.Error(v, ok)
	}
}

// naive is how two kids stand, by the chapter's words.
func naive(a, b api.Kid) int {
	names := slices.Compare([]byte(a.Name), []byte(b.Name))
	switch {
	case a.To < b.To, a.To == b.To && names < 0, a.To == b.To && names == 0 && a.Node < b.Node:
		return -1
	case a == b:
		return 0
	}
	return 1
}

// P12.1: kids that differ in one, in several, and in nothing, each the other way round, too.
func TestCmp(t *testing.T) {
	for _, c := range []struct {
		a, b api.Kid
		want int
	}{
		{api.Kid{}, api.Kid{}, 0},
		{api.Kid{To: 3, Name: "a", Node: 256}, api.Kid{To: 3, Name: "a", Node: 256}, 0},
		{api.Kid{To: 1}, api.Kid{To: 2}, -1},
		{api.Kid{To: -1}, api.Kid{}, -1},
		{api.Kid{To: math.MinInt}, api.Kid{To: math.MaxInt}, -1}, // their difference would be out of range
		{api.Kid{Node: math.MinInt}, api.Kid{Node: math.MaxInt}, -1},
		{api.Kid{To: 9}, api.Kid{To: 256}, -1}, // as numbers, not as texts
		{api.Kid{Node: 9}, api.Kid{Node: 256}, -1},
		{api.Kid{Name: ""}, api.Kid{Name: "\x00"}, -1},
		{api.Kid{Name: "a"}, api.Kid{Name: "ab"}, -1}, // the beginning
		{api.Kid{Name: "ab"}, api.Kid{Name: "b"}, -1},
		{api.Kid{Name: "Z"}, api.Kid{Name: "a"}, -1},
		{api.Kid{Name: "\x7f"}, api.Kid{Name: "\x80"}, -1},
		{api.Kid{Name: "~"}, api.Kid{Name: "\u00e9"}, -1},
		{api.Kid{Name: "\uffff"}, api.Kid{Name: "\U00010000"}, -1}, // as bytes, and not as halves of 16 bits
		{api.Kid{Name: "a\xff"}, api.Kid{Name: "a\xffa"}, -1},
		{api.Kid{Name: "a\x80"}, api.Kid{Name: "a\xfe"}, -1}, // both no text
		{api.Kid{Node: 256}, api.Kid{Node: 257}, -1},
		{api.Kid{To: 1, Name: "b", Node: 9}, api.Kid{To: 2, Name: "a", Node: 8}, -1},
		{api.Kid{To: 1, Name: "a", Node: 9}, api.Kid{To: 1, Name: "b", Node: 8}, -1},
		{api.Kid{To: 1, Name: "b", Node: 8}, api.Kid{To: 2, Name: "a", Node: 8}, -1},
	} {
		if a, b := Cmp(c.a, c.b), Cmp(c.b, c.a); a != c.want || b != -c.want {
			t.Errorf("Cmp(%v, %v) = %v, and %v the other way round", c.a, c.b, a, b)
		}
	}
	var l []api.Kid
	for _, to := range []int{math.MinInt, -1, 0, 1, 256, math.MaxInt} {
		for _, s := range []string{"", "\x00", "A", "a", "aa", "ab", "a\x80", "\x80", "\u00e9", "\ufffd", "\U0001f333"} {
			for _, n := range []int{math.MinInt, -1, 0, 256, math.MaxInt} {
				l = append(l, api.Kid{To: to, Name: s, Node: n})
			}
		}
	}
	for _, a := range l {
		for _, b := range l {
			if got := Cmp(a, b); got != naive(a, b) {
				t.Fatalf("Cmp(%v, %v) = %v", a, b, got)
			}
		}
	}
}

// P12.2: each kind of change, of a version of zeros, of small ones and of large ones.
func TestSet(t *testing.T) {
	for _, many := range []int{0, 1, 2, 3, 7, 20, 90, 300} {
		x := start(t, 4*many+400)
		v := x.grow(many, nodes(many))
		x.ask(v, asked(), paths())
		each(x, v, many)
		x.check()
	}
}

// each sets a node that is nowhere, and some of those that are somewhere, to whatever spots; of each change the version is asked for all.
func each(x *trial, v version, many int) {
	x.t.Helper()
	spots := []api.Spot{{}, at(0, "a"), at(0, "b"), at(1, "a"), at(256, "a"), at(300, "zz"), at(-5, ""), at(math.MaxInt, "a/b"), {To: 5}, {Name: "x"}, {To: 0, Name: "a"}}
	l := []int{255, -1, 0, 1, math.MinInt, math.MaxInt}
	for i := range min(many, 9) {
		l = append(l, 256+i*many/min(many, 9))
	}
	for _, n := range l {
		old := v.at[n]
		for _, s := range append(spots, old, at(old.To, old.Name+"b"), at(old.To+1, old.Name)) {
			next, tr, ok := x.set(v, api.Change{Node: n, Old: old, New: s})
			want := s != old && (s.In || old.In)
			if ok != want {
				x.t.Fatalf("%v from %v to %v: %v", n, old, s, ok)
			}
			if !ok {
				continue
			}
			x.ask(next, append(asked(), n, s.To, old.To), []string{"/", "/a", "/a/a", "/b", "/zz"})
			x.free(tr.KidsMade, tr.SpotsMade)
		}
	}
	x.same(v)
}

// P12.2: an Old that isn't the node's spot: nothing is done.
func TestSetOfWrongOld(t *testing.T) {
	x := start(t, 200)
	v := x.grow(1, []api.Kid{{To: 0, Name: "a", Node: 256}, {To: 256, Name: "b", Node: 257}, {To: 0, Name: "a", Node: 258}})
	for _, n := range []int{0, 1, 256, 257, 258, 259, -1, math.MaxInt} {
		for _, old := range []api.Spot{{}, {To: 256}, {Name: "b"}, {Name: "a"}, {To: 256, Name: "b"}, {In: true}, at(0, "a"), at(0, "b"), at(0, ""), at(0, "ab"), at(256, "b"), at(256, "a"), at(1, "a"), at(257, "b"), at(256, "B")} {
			for _, s := range []api.Spot{{}, at(0, "c"), at(0, "a"), at(256, "b"), {To: 1, Name: "q"}} {
				want := v.at[n] == old && s != old && (s.In || old.In)
				next, tr, ok := x.set(v, api.Change{Node: n, Old: old, New: s})
				if ok != want {
					t.Errorf("%v from %v to %v: %v", n, old, s, ok)
				}
				if ok {
					x.same(next)
					x.free(tr.KidsMade, tr.SpotsMade)
				}
			}
		}
	}
	// Where the spot is zeros, Old isn't it if it holds anything.
	for _, old := range []api.Spot{{To: 1}, {Name: "a"}, {To: -1, Name: "b"}} {
		if next, tr, ok := x.set(x.zeros(0), api.Change{Node: 256, Old: old, New: at(0, "a")}); ok {
			t.Error(next, tr)
		}
		if next, tr, ok := x.set(v, api.Change{Node: 300, Old: old}); ok {
			t.Error(next, tr)
		}
	}
	x.check()
}

// P12.2: a New that isn't In is nowhere, whatever else it holds; of what is nowhere already nothing is done.
func TestSetToNowhere(t *testing.T) {
	x := start(t, 100)
	v := x.grow(5, []api.Kid{{To: 0, Name: "a", Node: 256}, {To: 256, Name: "b", Node: 257}})
	for _, s := range []api.Spot{{}, {To: 256}, {Name: "b"}, {To: 256, Name: "b"}, {To: 77, Name: "new"}} {
		next, tr := x.must(v, api.Change{Node: 257, Old: at(256, "b"), New: s})
		if got := x.s.Spot(next.Version, 257); got != (api.Spot{}) || len(x.s.List(next.Version, 77)) != 0 {
			t.Error(got)
		}
		last, _ := x.must(next, api.Change{Node: 256, Old: at(0, "a"), New: s})
		if last.Version != (Version{N: 5}) {
			t.Error(last.Version)
		}
		x.free(tr.KidsMade, tr.SpotsMade)
		for _, n := range []int{0, 255, 258} {
			if _, _, ok := x.set(v, api.Change{Node: n, New: s}); ok {
				t.Error(n, s)
			}
			if _, _, ok := x.set(x.zeros(0), api.Change{Node: n, New: s}); ok {
				t.Error(n, s)
			}
		}
	}
	x.check()
}

// P12.2: a version has the number of the one that it was made of, whatever that is; the number is nothing of which a version hangs.
func TestNumbers(t *testing.T) {
	for _, n := range []int{0, 1, -1, 7, math.MinInt, math.MaxInt} {
		x := start(t, 50)
		v := x.move(x.zeros(n), 256, at(0, "a"))
		if v.N != n {
			t.Error(v.N)
		}
		v.N = n / 2
		v = x.move(v, 257, at(256, "b"))
		v.N = n ^ 5
		v = x.move(v, 256, api.Spot{})
		x.ask(v, asked(), paths())
		v = x.move(v, 257, api.Spot{})
		if v.Version != (Version{N: n ^ 5}) {
			t.Error(v.Version)
		}
		x.check()
	}
}

// P12.2: what may be told by no tree is set all the same: a node below itself, below its own kid, below what isn't there; the root and the trash below something; texts that are no names.
func TestSetOfAnything(t *testing.T) {
	x := start(t, 300)
	v := x.zeros(2)
	for _, c := range []api.Kid{{To: 256, Name: "a", Node: 256}, {To: 258, Name: "a", Node: 257}, {To: 257, Name: "a", Node: 258}, {To: 0, Name: "a", Node: 0}, {To: 0, Name: "b", Node: 1}, {To: 0, Name: "", Node: 259}, {To: 0, Name: "a/b", Node: 260}, {To: 0, Name: "\xff", Node: 261}, {To: 0, Name: strings.Repeat("long", 2000), Node: 262}, {To: math.MinInt, Name: "a", Node: math.MinInt}, {To: math.MaxInt, Name: "a", Node: math.MaxInt}, {To: 2, Name: "a", Node: -3}, {To: 0, Name: "c", Node: 256}} {
		v = x.move(v, c.Node, at(c.To, c.Name))
		x.ask(v, asked(), append(paths(), strings.Repeat("/a", 200), "/c", "/a/a/c", "/a/a/c/a"))
	}
	x.check()
}

// P12.2: a node that was made, and is gone again, is told in neither list, and lies there no more.
func TestMadeAndGone(t *testing.T) {
	brief := 0
	for many := 2; many < 60; many++ {
		x := start(t, 1000)
		var l []api.Kid
		for i := range many {
			l = append(l, api.Kid{To: 0, Name: strings.Repeat("n", 1+i%20) + strings.Repeat("m", i/20), Node: 1000 + i})
		}
		v := x.grow(0, l)
		for _, k := range l {
			_, tr := x.must(v, api.Change{Node: k.Node, Old: at(0, k.Name), New: at(0, k.Name+"x")})
			del, _ := x.s.Kids.Del(v.Kids, k)
			put, _ := x.s.Kids.Put(del.Root, api.Kid{To: 0, Name: k.Name + "x", Node: k.Node}, true)
			for _, h := range del.Made {
				if slices.Contains(put.Gone, h) {
					brief++
				}
				x.s.Kids.Free(h)
			}
			for _, h := range put.Made {
				x.s.Kids.Free(h)
			}
			x.count()
			x.free(tr.KidsMade, tr.SpotsMade)
		}
		x.check()
	}
	if brief == 0 {
		t.Error("no node was made, and gone again")
	}
}

// fill lays nodes into both maps, or frees such ones, till so many slots are free; they are versions of one node each that stand by themselves.
func (x *trial) fill(kids, spots int) {
	x.t.Helper()
	for x.s.Kids.Room() > kids {
		e, _ := x.s.Kids.Put(api.Handle{}, api.Kid{Node: 5}, true)
		x.kids.add(x.t, e.Made)
		x.fillers.KidsMade = append(x.fillers.KidsMade, e.Made...)
	}
	for x.s.Spots.Room() > spots {
		e, _ := x.s.Spots.Put(api.Handle{}, 5, at(0, "full"))
		x.spots.add(x.t, e.Made)
		x.fillers.SpotsMade = append(x.fillers.SpotsMade, e.Made...)
	}
	k, s := len(x.fillers.KidsMade)-kids+x.s.Kids.Room(), len(x.fillers.SpotsMade)-spots+x.s.Spots.Room()
	x.free(x.fillers.KidsMade[k:], x.fillers.SpotsMade[s:])
	x.fillers.KidsMade, x.fillers.SpotsMade = x.fillers.KidsMade[:k], x.fillers.SpotsMade[:s]
}

// P12.2: of each number of free slots, in the one map and in the other: with fewer than nodes are made there isn't room, and nothing is done; with 6 times the High, and 2, there is.
func TestRoom(t *testing.T) {
	refused := 0
	for _, many := range []int{0, 1, 2, 3, 4, 7, 12, 33, 54} {
		x := start(t, many+200)
		v := x.grow(1, nodes(many))
		old := x.move(v, 1<<40, at(0, "old"))
		kids, spots := v.high()
		for _, c := range changes(many) {
			x.fill(100, 100)
			_, made := x.must(v, c)
			x.free(made.KidsMade, made.SpotsMade)
			for k := range 6*kids + 4 {
				refused += narrow(x, v, c, k, 6*spots+3, made) + narrow(x, v, c, k, 6*spots+2, made)
			}
			for s := range 6*spots + 4 {
				refused += narrow(x, v, c, 6*kids+3, s, made) + narrow(x, v, c, 6*kids+2, s, made)
			}
			for k := range len(made.KidsMade) + 3 {
				for s := range len(made.SpotsMade) + 3 {
					refused += narrow(x, v, c, k, s, made)
				}
			}
			x.same(old)
		}
		x.fill(100, 100)
		for _, c := range changes(many) {
			_, made := x.must(v, c)
			x.free(made.KidsMade, made.SpotsMade)
		}
		x.check()
	}
	if refused == 0 {
		t.Error("there was always room")
	}
}

// changes are some of a version of so many nodes: of one that is nowhere, and of some that are somewhere, to other nodes, names, and to nowhere.
func changes(many int) []api.Change {
	l := []api.Change{{Node: 255, New: at(0, "a")}, {Node: 99999, New: at(99999, "z")}}
	kids := nodes(many)
	for i := 0; i < many; i += 1 + many/5 {
		k := kids[i]
		was := at(k.To, k.Name)
		l = append(l, api.Change{Node: k.Node, Old: was}, api.Change{Node: k.Node, Old: was, New: at(k.To, k.Name+"a")}, api.Change{Node: k.Node, Old: was, New: at(99999, "z")}, api.Change{Node: k.Node, Old: was, New: at(-1, "a")})
	}
	return l
}

// narrow sets a change with so many free slots, and takes it back; how often there wasn't room.
func narrow(x *trial, v version, c api.Change, kids, spots int, made Trace) int {
	x.t.Helper()
	x.fill(kids, spots)
	_, tr, ok := x.set(v, c)
	if ok && (kids < len(made.KidsMade) || spots < len(made.SpotsMade)) {
		x.t.Fatalf("%v was done, with %v and %v free", c, kids, spots)
	}
	if ok {
		x.free(tr.KidsMade, tr.SpotsMade)
		return 0
	}
	x.same(v)
	// The same again is the same.
	if _, _, ok := x.set(v, c); ok {
		x.t.Fatalf("%v can be done, with %v and %v free, at the second time", c, kids, spots)
	}
	return 1
}

// P12.2: slots of what couldn't be done are used again in the order in which they would have been: of two stores the one that was asked for too much tells the same slots behind that.
func TestSlotsOfWhatIsUndone(t *testing.T) {
	undone := 0
	for kids := range 12 {
		for spots := range 12 {
			one, other := start(t, 80), start(t, 80)
			var versions []version
			for _, x := range []*trial{one, other} {
				v := x.grow(1, nodes(20))
				var made []Trace
				for n := range 3 {
					_, tr := x.must(v, api.Change{Node: 1000 + n, New: at(0, "b")})
					made = append(made, tr)
				}
				for _, tr := range made {
					x.free(tr.KidsMade, tr.SpotsMade)
				}
				x.fill(kids, spots)
				versions = append(versions, v)
			}
			c := api.Change{Node: 258, Old: versions[0].at[258], New: at(0, "b")}
			if _, _, ok := one.set(versions[0], c); ok {
				continue
			}
			undone++
			for range one.s.Kids.Room() {
				a, _ := one.s.Kids.Put(api.Handle{}, api.Kid{}, true)
				b, _ := other.s.Kids.Put(api.Handle{}, api.Kid{}, true)
				if a.Root.Slot != b.Root.Slot {
					t.Fatal(kids, spots, a.Root, b.Root)
				}
			}
			for range one.s.Spots.Room() {
				a, _ := one.s.Spots.Put(api.Handle{}, 0, api.Spot{})
				b, _ := other.s.Spots.Put(api.Handle{}, 0, api.Spot{})
				if a.Root.Slot != b.Root.Slot {
					t.Fatal(kids, spots, a.Root, b.Root)
				}
			}
		}
	}
	if undone == 0 {
		t.Error("nothing was undone")
	}
}

// P12.3: nodes that are there, and that aren't, below which there is nothing, one, or many.
func TestSpotAndList(t *testing.T) {
	x := start(t, 600)
	var l []api.Kid
	// Each of the names is there at each place twice; numbers rise neither with the names, nor with the places.
	tos := []int{0, 1, 2, 256, 1 << 40, -7, math.MinInt, math.MaxInt}
	names := []string{"z", "a", "ab", "A", "\u00e9", "\U0001f333", "~", "a\x80", ""}
	for i, to := range tos {
		for j, s := range names {
			for k := range 2 {
				l = append(l, api.Kid{To: to, Name: s, Node: 1000 + (i*7+j*11+k*5)%13*1000 + j*100 + i*10 + k})
			}
		}
	}
	l = append(l, api.Kid{To: 5, Name: "one", Node: 300})
	v := x.grow(1, shuffled(l, 3))
	ask := append(asked(), tos...)
	ask = append(ask, 5, 4, 6, 300)
	for _, k := range l {
		ask = append(ask, k.Node, k.Node+1)
	}
	x.ask(v, ask, paths())
	var want []api.Kid
	for _, s := range []string{"", "A", "a", "ab", "a\x80", "z", "~", "\u00e9", "\U0001f333"} {
		for _, k := range l {
			if k.To == 0 && k.Name == s {
				want = append(want, k)
			}
		}
		if n := len(want); want[n-1].Node < want[n-2].Node {
			want[n-1], want[n-2] = want[n-2], want[n-1]
		}
	}
	if got := x.s.List(v.Version, 0); !slices.Equal(got, want) {
		t.Errorf("%v, not %v", got, want)
	}
	if got := x.s.List(v.Version, 5); !slices.Equal(got, []api.Kid{{To: 5, Name: "one", Node: 300}}) {
		t.Error(got)
	}
	for _, n := range []int{3, 4, 6, 255, 257, 300} {
		if got := x.s.List(v.Version, n); len(got) != 0 {
			t.Error(n, got)
		}
	}
	x.ask(x.zeros(1), ask, paths())
	x.check()
}

// P12.3: Find goes by the least number of a name at each step, and turns back from none of them.
func TestFind(t *testing.T) {
	x := start(t, 300)
	long := strings.Repeat("n", 20)
	v := x.grow(1, []api.Kid{
		{To: 0, Name: "a", Node: 300}, {To: 300, Name: "b", Node: 256}, {To: 0, Name: "a", Node: 258}, {To: 258, Name: "b", Node: 260}, {To: 258, Name: "b", Node: 259}, {To: 259, Name: "c", Node: 257},
		{To: 300, Name: "only", Node: 301}, {To: 260, Name: "only", Node: 302}, {To: 1, Name: "gone", Node: 303}, {To: 303, Name: "gone", Node: 304}, {To: 0, Name: "\u00e9", Node: 305},
		{To: 0, Name: "~", Node: 306}, {To: 0, Name: "A", Node: 307}, {To: 257, Name: long, Node: 308}, {To: 0, Name: "few", Node: math.MaxInt}, {To: 0, Name: "few", Node: math.MinInt}, {To: -1, Name: "a", Node: 2},
	})
	for _, c := range []struct {
		path string
		n    int
		e    api.Errno
	}{
		{"/", 0, api.OK},
		{"/a", 258, api.OK},           // the lesser of two, that came later
		{"/a/b", 259, api.OK},         // the lesser of two there; the least of all by that name is below the other a
		{"/a/b/c", 257, api.OK},       // deeper
		{"/A", 307, api.OK},           // another name than a
		{"/\u00e9", 305, api.OK},      // more bytes than one
		{"/~", 306, api.OK},           // the last name below the root but one
		{"/few", math.MinInt, api.OK}, // the least number that there is
		{"/a/only", 0, api.ErrNone},   // the other a has it
		{"/a/b/only", 0, api.ErrNone},
		{"/a/c", 0, api.ErrNone}, // further down
		{"/b", 0, api.ErrNone},
		{"/c", 0, api.ErrNone},
		{"/a/a", 0, api.ErrNone},
		{"/a/b/c/d", 0, api.ErrNone},
		{"/gone", 0, api.ErrNone}, // the trash isn't below the root
		{"/gone/gone", 0, api.ErrNone},
		{"/zz/b", 0, api.ErrNone}, // the first name fails, the second one is there
		{"/e", 0, api.ErrNone},
		{"/fe", 0, api.ErrNone}, // the beginning of one
		{"/fewer", 0, api.ErrNone},
		{"/\U0001f333", 0, api.ErrNone}, // behind all
		{"/!", 0, api.ErrNone},          // ahead of all
		{"/a ", 0, api.ErrNone},
		{"/.", 0, api.ErrNone},
		{"/a/..", 0, api.ErrNone},
		{"/a/b/c/" + long, 308, api.OK},
		{"/a/b/c/" + long[1:], 0, api.ErrNone},
		{"/zz/" + long + "n", 0, api.ErrName}, // no path at all, though its first name is there not either
		{"/a/b/c/", 0, api.ErrName},
	} {
		if n, e := x.s.Find(v.Version, c.path); n != c.n || e != c.e {
			t.Errorf("Find(%q) = %v, %v, not %v, %v", c.path, n, e, c.n, c.e)
		}
		if n, e := x.s.Find(Version{N: 3}, c.path); n != 0 || (e != api.ErrNone) != (c.path == "/" || c.e == api.ErrName) {
			t.Errorf("Find(%q) of nothing: %v, %v", c.path, n, e)
		}
	}
	for _, p := range noPaths() {
		if n, e := x.s.Find(v.Version, p); n != 0 || e != api.ErrName {
			t.Errorf("Find(%q) = %v, %v", p, n, e)
		}
	}
	x.check()
}

// P12.3: a way of as many nodes as a path may have names, and of more.
func TestDeep(t *testing.T) {
	x := start(t, 500)
	l := []api.Kid{{To: 0, Name: "a", Node: 256}}
	for n := 257; n < 256+220; n++ {
		l = append(l, api.Kid{To: n - 1, Name: "a", Node: n})
	}
	v := x.grow(1, l)
	if n, e := x.s.Find(v.Version, strings.Repeat("/a", 200)); n != 256+199 || e != api.OK {
		t.Error(n, e)
	}
	if n, e := x.s.Find(v.Version, strings.Repeat("/a", 199)+"/b"); n != 0 || e != api.ErrNone {
		t.Error(n, e)
	}
	if n, e := x.s.Find(v.Version, strings.Repeat("/a", 201)); n != 0 || e != api.ErrName {
		t.Error(n, e)
	}
	v = x.move(v, 256, at(1, "a"))
	if n, e := x.s.Find(v.Version, strings.Repeat("/a", 200)); n != 0 || e != api.ErrNone {
		t.Error(n, e)
	}
}

// P12.3: names that are alike, whatever the order in which their nodes came: the least number, and when it goes, the next one.
func TestFindLeast(t *testing.T) {
	nodes := []int{-9, 0, 256, 257, 300, 1 << 31, math.MaxInt}
	for turn := range nodes {
		x := start(t, 500)
		v := x.zeros(0)
		for i := range nodes {
			v = x.move(v, nodes[(i*2+turn)%len(nodes)], at(0, "a"))
		}
		for _, n := range nodes {
			if got, e := x.s.Find(v.Version, "/a"); got != n || e != api.OK {
				t.Errorf("turn %v: %v, %v, not %v", turn, got, e, n)
			}
			v = x.move(v, n, at(1, "a"))
		}
		if n, e := x.s.Find(v.Version, "/a"); n != 0 || e != api.ErrNone {
			t.Error(n, e)
		}
	}
}

// P12.4: what is gone, handles that don't lie there, one twice, and none: as many are told as lay there.
func TestFree(t *testing.T) {
	x := start(t, 200)
	v := x.grow(1, nodes(20))
	for _, none := range [][]api.Handle{nil, {}, {{}}, {{Slot: 1}, {Gen: 1}, {Slot: -1, Gen: 1}, {Slot: 1, Gen: -1}, {Slot: 201, Gen: 1}, {Slot: math.MinInt, Gen: math.MaxInt}, {Slot: math.MaxInt, Gen: 1}, {Slot: 1, Gen: 99}, {Slot: 199, Gen: 1}}} {
		if n := x.s.Free(none, nil) + x.s.Free(nil, none) + x.s.Free(none, none); n != 0 {
			t.Error(none, n)
		}
	}
	x.same(v)
	n, tr := x.must(v, api.Change{Node: 260, Old: v.at[260], New: at(1, "zz")})
	if len(tr.KidsGone) < 2 || len(tr.SpotsGone) < 2 {
		t.Fatal(tr)
	}
	kids, spots := slices.Clone(tr.KidsGone), slices.Clone(tr.SpotsGone)
	if got := x.s.Free(tr.KidsGone[:1], nil); got != 1 {
		t.Error(got)
	}
	if got := x.s.Free(nil, tr.SpotsGone[:1]); got != 1 {
		t.Error(got)
	}
	twice := slices.Concat(tr.KidsGone, []api.Handle{{}}, tr.KidsGone)
	if got := x.s.Free(twice, append(tr.SpotsGone, tr.SpotsGone...)); got != len(kids)+len(spots)-2 {
		t.Error(got)
	}
	if got := x.s.Free(tr.KidsGone, tr.SpotsGone); got != 0 {
		t.Error(got)
	}
	if !slices.Equal(tr.KidsGone, kids) || !slices.Equal(tr.SpotsGone, spots) {
		t.Error("what was handed in is changed")
	}
	for _, h := range kids {
		if k, ok := x.s.Kids.Load(h); ok {
			t.Error(k)
		}
	}
	x.kids.out(kids)
	x.spots.out(spots)
	x.same(n)
	x.count()
	x.all = x.all[:1]
	// All that a version has: then nothing lies there any more.
	x.free(handles(n.kids), handles(n.spots))
	if x.s.Kids.Live() != 0 || x.s.Spots.Room() != 200 {
		t.Error(x.s.Kids.Live(), x.s.Spots.Room())
	}
	// What was freed isn't found again when its slot is used.
	v = x.grow(1, nodes(20))
	if got := x.s.Free(handles(n.kids), handles(n.spots)); got != 0 {
		t.Error(got)
	}
	x.same(v)
}

func handles[N any](l map[api.Handle]N) (out []api.Handle) {
	for h := range l {
		out = append(out, h)
	}
	return out
}

// P12.2: of what is gone the one map's handles are not the other one's: lists of kids, and of spots, are told where they belong.
func TestListsBelong(t *testing.T) {
	x := start(t, 100)
	v := x.grow(1, []api.Kid{{To: 0, Name: "c", Node: 256}, {To: 0, Name: "b", Node: 257}, {To: 0, Name: "a", Node: 258}, {To: 0, Name: "d", Node: 259}})
	n, tr := x.must(v, api.Change{Node: 256, Old: at(0, "c"), New: at(0, "e")})
	x.free(tr.KidsGone, nil)
	walk(t, x.s.Spots, v.Spots)
	x.same(n)
	x.free(nil, tr.SpotsGone)
	x.same(n)
	if x.s.Kids.Live() != 4 || x.s.Spots.Live() != 4 {
		t.Error(x.s.Kids.Live(), x.s.Spots.Live())
	}
}

// P12.2 to P12.4: rows of changes of versions of versions, of stores with much room, and with little.
func TestLongRows(t *testing.T) {
	for seed := range 30 {
		x := start(t, []int{3000, 300, 60, 20, 5}[seed%5])
		play(x, chance(seed, 800))
	}
}

// play makes versions of versions, as bytes say it, four of them for each; now and then what a version alone has is freed.
func play(x *trial, row []byte) {
	x.t.Helper()
	names := []string{"a", "b", "ab", "\u00e9", "~"}
	for ; len(row) >= 4; row = row[4:] {
		v := x.all[(len(x.all)-1)*int(row[0])/255]
		n := 256 + int(row[1]%24)
		c := api.Change{Node: n, Old: v.at[n], New: api.Spot{In: row[3]%4 > 0, To: []int{0, 1, 256, 257, 258, 256 + int(row[1]%24)}[row[2]%6], Name: names[row[3]%5]}}
		switch row[2] / 16 {
		case 0:
			c.Old = at(0, "a")
		case 1:
			c.Old = api.Spot{}
		case 2, 3:
			x.release(v)
			continue
		}
		next, tr, ok := x.set(v, c)
		switch {
		case !ok && row[3]%2 == 0 && len(x.all) > 1:
			x.release(x.all[1+int(row[1])%(len(x.all)-1)])
		case ok && row[2]%3 == 0:
			x.free(tr.KidsGone, tr.SpotsGone)
			x.ask(next, []int{0, 1, n, 256, 257}, []string{"/", "/a", "/b", "/a/a", "/a/b", "/a/"})
		}
		if row[3]%16 == 0 {
			x.check()
		}
	}
	x.check()
	for _, v := range x.all {
		x.ask(v, []int{0, 1, 256, 257, 258, 259, 300}, []string{"/", "/a", "/b", "/a/a", "/a/b", "/~/ab", "/ab/"})
	}
}

// P12.2: changes one behind the other, of which what is gone is freed each time, need no more room than that of a version and of one change; at the end nothing lies there.
func TestOneBehindTheOther(t *testing.T) {
	x := start(t, 40+6*9+2)
	v := x.zeros(1)
	c := chance(9, 3*2000)
	for i := 0; i < len(c); i += 3 {
		n := 256 + int(c[i]%40)
		s := at([]int{0, 1, 256, 257}[c[i+1]%4], string(rune('a'+c[i+2]%26)))
		if c[i+1] < 60 {
			s = api.Spot{}
		}
		next, tr, ok := x.set(v, api.Change{Node: n, Old: v.at[n], New: s})
		if !ok {
			continue
		}
		x.free(tr.KidsGone, tr.SpotsGone)
		v = next
		if x.s.Kids.Live() != len(v.at) || x.s.Spots.Live() != len(v.at) {
			t.Fatal(x.s.Kids.Live(), x.s.Spots.Live(), len(v.at))
		}
	}
	for n := range v.at {
		next, tr := x.must(v, api.Change{Node: n, Old: v.at[n]})
		x.free(tr.KidsGone, tr.SpotsGone)
		v = next
	}
	if v.Version != (Version{N: 1}) || x.s.Kids.Live() != 0 || x.s.Spots.Live() != 0 {
		t.Error(v.Version, x.s.Kids.Live(), x.s.Spots.Live())
	}
}

// spoilt is a handle that no map tells.
var spoilt = api.Handle{Slot: -99, Gen: -99}

// spoil changes a list, and all of its memory that lies behind it.
func spoil(l []api.Handle) {
	l = l[:cap(l)]
	for i := range l {
		l[i] = spoilt
	}
}

// R5: lists that were told may be changed by who was told them, and are not changed by what is done later; no two share memory.
func TestListsAreOwn(t *testing.T) {
	x := start(t, 4000)
	v := x.zeros(0)
	var kept, were []Trace
	clone := func(tr Trace) Trace {
		return Trace{slices.Clone(tr.KidsMade), slices.Clone(tr.KidsGone), slices.Clone(tr.SpotsMade), slices.Clone(tr.SpotsGone)}
	}
	c := chance(4, 400)
	for i := 0; i < len(c); i += 2 {
		n := 256 + int(c[i]%30)
		next, tr, ok := x.set(v, api.Change{Node: n, Old: v.at[n], New: at(int(c[i+1]%2), string(rune('a'+c[i+1]%26)))})
		if !ok {
			continue
		}
		v = next
		if i%3 == 0 {
			kept, were = append(kept, tr), append(were, clone(tr))
			continue
		}
		lists := []*[]api.Handle{&tr.KidsMade, &tr.KidsGone, &tr.SpotsMade, &tr.SpotsGone}
		for _, l := range lists {
			if slices.Contains(*l, spoilt) {
				t.Fatal("two lists share memory")
			}
			spoil(*l)
		}
		x.same(v)
	}
	x.check()
	for i, tr := range kept {
		if !slices.Equal(tr.KidsMade, were[i].KidsMade) || !slices.Equal(tr.KidsGone, were[i].KidsGone) || !slices.Equal(tr.SpotsMade, were[i].SpotsMade) || !slices.Equal(tr.SpotsGone, were[i].SpotsGone) {
			t.Error(i, tr)
		}
	}
	first, second := x.s.List(v.Version, 0), x.s.List(v.Version, 0)
	want := slices.Clone(second)
	first = first[:cap(first)]
	for i := range first {
		first[i] = api.Kid{To: -9, Name: "spoilt", Node: -9}
	}
	if !slices.Equal(second, want) {
		t.Error(second)
	}
	x.ask(v, asked(), paths())
	x.check()
}

// R5: of a name that is a piece of a longer text nothing is kept but the name.
func TestNamesAreOwn(t *testing.T) {
	long := strings.Repeat("long ", 1000) + "name"
	s := long[5000:]
	x := start(t, 10)
	v := x.move(x.zeros(0), 256, at(0, s))
	spot, kid := x.s.Spot(v.Version, 256).Name, x.s.List(v.Version, 0)[0].Name
	for _, got := range []string{spot, kid} {
		if got != "name" || unsafe.StringData(got) == unsafe.StringData(s) {
			t.Errorf("%q is kept, with all that is ahead of it", got)
		}
	}
}

// R6: two stores are two; and of two to which the same was done each tells the same, handles too.
func TestTwoAreTwo(t *testing.T) {
	a, b := start(t, 700), start(t, 600)
	c := chance(8, 1200)
	for i := 0; i+40 <= len(c); i += 40 {
		one, other := a, b
		if c[i]%2 == 0 {
			one, other = b, a
		}
		play(one, c[i:i+40])
		other.check()
	}
	for range 3 {
		s, r := New(60), New(60)
		v, w := Version{}, Version{}
		for i, k := range chance(77, 200) {
			n := 256 + int(k%20)
			change := api.Change{Node: n, Old: s.Spot(v, n), New: at(i%3, string(rune('a'+k%26)))}
			x, xt, ok := s.Set(v, change)
			y, yt, yes := r.Set(w, change)
			if x != y || ok != yes || !slices.Equal(xt.KidsMade, yt.KidsMade) || !slices.Equal(xt.KidsGone, yt.KidsGone) || !slices.Equal(xt.SpotsMade, yt.SpotsMade) || !slices.Equal(xt.SpotsGone, yt.SpotsGone) {
				t.Fatal(x, y, xt, yt)
			}
			if ok && i%2 == 0 {
				s.Free(xt.KidsGone, xt.SpotsGone)
				r.Free(yt.KidsGone, yt.SpotsGone)
				v, w = x, y
			} else if ok {
				s.Free(xt.KidsMade, xt.SpotsMade)
				r.Free(yt.KidsMade, yt.SpotsMade)
			}
		}
	}
}

// FuzzStore makes versions of versions, as bytes say it, in stores with much room, and with little.
func FuzzStore(f *testing.F) {
	f.Add([]byte{0, 1, 64, 1, 255, 2, 64, 2, 255, 1, 65, 3}, uint16(200))
	f.Add(chance(1, 400), uint16(1000))
	f.Add(chance(2, 400), uint16(20))
	f.Fuzz(func(t *testing.T, row []byte, slots uint16) {
		play(start(t, int(slots%2048)), row[:min(len(row), 400)])
	})
}

// FuzzFind holds whatever path is found against the words, in a version that has one more kid.
func FuzzFind(f *testing.F) {
	f.Add(0, "a", 300, "/a")
	f.Add(256, "b", -1, "/a/b/a")
	f.Add(0, "a/b", 0, "/a/")
	f.Fuzz(func(t *testing.T, to int, name string, node int, path string) {
		x := start(t, 200)
		v := x.grow(1, nodes(20))
		if n, _, ok := x.set(v, api.Change{Node: node, Old: v.at[node], New: at(to, name)}); ok {
			v = n
		}
		x.ask(v, []int{0, 1, 256, to, node}, []string{path, "/", "/" + name, "/a", "/a/" + name})
	})
}
