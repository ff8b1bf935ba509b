package arena

import (
	"math"
	"runtime"
	"slices"
	"strings"
	"testing"
	"weak"

	"holt/api"
)

// most is how many slots there may be, as the chapter's words say it.
const most = 1048576

// words is an arena as the chapter's words say it: of how many slots, and all that was done, one behind the other.
type words[T any] struct {
	slots int
	deeds []deed[T]
}

// deed is that something was put into a slot, or that the slot was freed.
type deed[T any] struct {
	slot  int
	freed bool
	thing T
}

// last is the number of the last deed that was done to a slot, from 0 on; -1, if none was.
func (w *words[T]) last(slot int) int {
	for i, d := range slices.Backward(w.deeds) {
		if d.slot == slot {
			return i
		}
	}
	return -1
}

// uses is how often something was put into a slot.
func (w *words[T]) uses(slot int) (n int) {
	for _, d := range w.deeds {
		if d.slot == slot && !d.freed {
			n++
		}
	}
	return n
}

func (w *words[T]) lies(slot int) bool {
	i := w.last(slot)
	return i >= 0 && !w.deeds[i].freed
}

func (w *words[T]) live() (n int) {
	for slot := 1; slot <= w.slots; slot++ {
		if w.lies(slot) {
			n++
		}
	}
	return n
}

// next is the slot that was freed last of those in which nothing lies; if none was freed, the least of them; 0, if there is none.
func (w *words[T]) next() (slot int) {
	best := -2
	for n := 1; n <= w.slots; n++ {
		if i := w.last(n); !w.lies(n) && i > best {
			slot, best = n, i
		}
	}
	return slot
}

func (w *words[T]) put(x T) (api.Handle, bool) {
	n := w.next()
	if n == 0 {
		return api.Handle{}, false
	}
	w.deeds = append(w.deeds, deed[T]{slot: n, thing: x})
	return api.Handle{Slot: n, Gen: w.uses(n)}, true
}

func (w *words[T]) get(h api.Handle) (x T, ok bool) {
	if !w.lies(h.Slot) || h.Gen != w.uses(h.Slot) {
		return x, false
	}
	return w.deeds[w.last(h.Slot)].thing, true
}

func (w *words[T]) free(h api.Handle) bool {
	_, ok := w.get(h)
	if ok {
		w.deeds = append(w.deeds, deed[T]{slot: h.Slot, freed: true})
	}
	return ok
}

// both is an arena, and that by the words, to which the same is done; told are all handles that were told, in order.
type both[T comparable] struct {
	t    *testing.T
	a    *Arena[T]
	w    *words[T]
	told []api.Handle
}

func start[T comparable](t *testing.T, slots int) *both[T] {
	t.Helper()
	a := New[T](slots)
	if a == nil {
		t.Fatalf("New(%v) is nil", slots)
	}
	return &both[T]{t: t, a: a, w: &words[T]{slots: slots}}
}

// put puts into both, and tells the handle.
func (b *both[T]) put(x T) api.Handle {
	b.t.Helper()
	want, ok := b.w.put(x)
	h, got := b.a.Put(x)
	if h != want || got != ok {
		b.t.Errorf("Put(%v) = %v, %v, not %v, %v", x, h, got, want, ok)
	}
	if ok {
		b.told = append(b.told, want)
	}
	return want
}

func (b *both[T]) free(h api.Handle) {
	b.t.Helper()
	want := b.w.free(h)
	if got := b.a.Free(h); got != want {
		b.t.Errorf("Free(%v) = %v, not %v", h, got, want)
	}
}

func (b *both[T]) get(h api.Handle) {
	b.t.Helper()
	want, ok := b.w.get(h)
	if x, got := b.a.Get(h); x != want || got != ok {
		b.t.Errorf("Get(%v) = %v, %v, not %v, %v", h, x, got, want, ok)
	}
}

// count holds Live and Room against the words.
func (b *both[T]) count() {
	b.t.Helper()
	live := b.w.live()
	if got := b.a.Live(); got != live {
		b.t.Errorf("Live: %v, not %v", got, live)
	}
	if got := b.a.Room(); got != b.w.slots-live {
		b.t.Errorf("Room: %v, not %v", got, b.w.slots-live)
	}
}

// check holds all that is told against the words, with every handle about those that were told, and with those that no arena tells.
func (b *both[T]) check() {
	b.t.Helper()
	b.count()
	for slot := -1; slot <= b.w.slots+2; slot++ {
		for gen := -1; gen <= b.w.uses(slot)+2; gen++ {
			b.get(api.Handle{Slot: slot, Gen: gen})
		}
	}
	for _, h := range slices.Concat(b.told, wrongs(b.w.slots)) {
		b.get(h)
	}
	b.count()
}

// wrongs are handles that no arena of so many slots tells, by their slots or their gens alone.
func wrongs(slots int) []api.Handle {
	l := []api.Handle{{}}
	for _, n := range []int{math.MinInt, math.MinInt + 1, -1 << 32, -slots - 1, -slots, -2, -1, 0, slots + 1, slots + 2, most + 1, 1 << 32, 1<<32 + 1, math.MaxInt - 1, math.MaxInt} {
		l = append(l, api.Handle{Slot: n, Gen: 1}, api.Handle{Slot: n, Gen: 2}, api.Handle{Slot: n})
	}
	for _, n := range []int{math.MinInt, math.MinInt + 1, -1 << 32, -2, -1, 0, 1 << 32, 1<<32 + 1, math.MaxInt - 1, math.MaxInt} {
		l = append(l, api.Handle{Slot: 1, Gen: n}, api.Handle{Slot: slots, Gen: n})
	}
	return l
}

// leaf is a struct that may lie in an arena.
type leaf struct {
	name string
	down [2]api.Handle
	high int
}

// number, text, and branch are things by numbers; that of 0 is the zero value, which may lie there, too.
func number(n int) int { return n * 1000003 }

func text(n int) string { return strings.Repeat("x", n%7) + strings.Repeat("y", n/7) }

func branch(n int) leaf {
	return leaf{name: text(n), down: [2]api.Handle{{Slot: n}, {Gen: n}}, high: -n}
}

// ofAll does one test with arenas of numbers, of texts, of structs, and of anything, nothing too.
func ofAll(t *testing.T, numbers func(*testing.T, func(int) int), texts func(*testing.T, func(int) string), structs func(*testing.T, func(int) leaf), anything func(*testing.T, func(int) any)) {
	t.Run("numbers", func(t *testing.T) { numbers(t, number) })
	t.Run("texts", func(t *testing.T) { texts(t, text) })
	t.Run("structs", func(t *testing.T) { structs(t, branch) })
	t.Run("anything", func(t *testing.T) {
		anything(t, func(n int) any { return []any{nil, n, text(n), branch(n), &struct{ n int }{n}}[n%5] })
	})
}

func TestExample(t *testing.T) {
	a := New[int](2)
	first, ok := a.Put(5)
	if first != (api.Handle{Slot: 1, Gen: 1}) || !ok {
		t.Error(first, ok)
	}
	second, ok := a.Put(6)
	if second != (api.Handle{Slot: 2, Gen: 1}) || !ok {
		t.Error(second, ok)
	}
	if !a.Free(first) {
		t.Error("it isn't freed")
	}
	third, ok := a.Put(7)
	if third != (api.Handle{Slot: 1, Gen: 2}) || !ok {
		t.Error(third, ok)
	}
	if x, ok := a.Get(first); x != 0 || ok {
		t.Error(x, ok)
	}
	for h, want := range map[api.Handle]int{second: 6, third: 7} {
		if x, ok := a.Get(h); x != want || !ok {
			t.Error(h, x, ok)
		}
	}
}

// P9.1: there are no fewer than no slots, and no more than the most.
func TestNew(t *testing.T) { ofAll(t, testNew[int], testNew[string], testNew[leaf], testNew[any]) }

func testNew[T comparable](t *testing.T, thing func(int) T) {
	if Most != most {
		t.Error(Most)
	}
	for _, n := range []int{math.MinInt, math.MinInt + 1, -1 << 32, -1<<32 + 1, -most, -2, -1, most + 1, most + 2, 2 * most, 1 << 32, 1<<32 + 1, math.MaxInt - 1, math.MaxInt} {
		if New[T](n) != nil {
			t.Errorf("New(%v) isn't nil", n)
		}
	}
	for _, n := range []int{0, 1, 2, 64, 65535, 65536, most - 1, most} {
		a := New[T](n)
		if a == nil || a.Live() != 0 || a.Room() != n {
			t.Fatalf("New(%v) isn't one in which nothing lies", n)
		}
		for _, h := range append(wrongs(n), api.Handle{Slot: 1, Gen: 1}, api.Handle{Slot: n, Gen: 1}) {
			var none T
			if x, ok := a.Get(h); x != none || ok || a.Free(h) {
				t.Errorf("of %v, %v finds %v, %v", n, h, x, ok)
			}
		}
	}
	for n := range 4 {
		start[T](t, n).check()
	}
}

// P9.1 to P9.3: a slot is filled behind the other, to the last one, and emptied, from either end, and filled again.
func TestFull(t *testing.T) {
	ofAll(t, testFull[int], testFull[string], testFull[leaf], testFull[any])
}

func testFull[T comparable](t *testing.T, thing func(int) T) {
	for slots := range 9 {
		b := start[T](t, slots)
		for turn := range 4 {
			for n := range slots {
				b.put(thing(turn*slots + n))
				b.check()
			}
			if b.a.Room() != 0 || b.a.Live() != slots {
				t.Errorf("of %v, %v are free, and %v not", slots, b.a.Room(), b.a.Live())
			}
			for n := range 3 {
				if h, ok := b.a.Put(thing(100 + n)); h != (api.Handle{}) || ok {
					t.Errorf("into none of %v: %v, %v", slots, h, ok)
				}
				b.check()
			}
			l := slices.Clone(b.told[turn*slots:])
			if turn%2 == 1 {
				slices.Reverse(l)
			}
			for _, h := range l {
				b.free(h)
				b.check()
			}
			if b.a.Room() != slots || b.a.Live() != 0 {
				t.Errorf("of %v, %v are free, and %v not", slots, b.a.Room(), b.a.Live())
			}
		}
	}
}

// P9.2: the slot that was freed last is used first, then the one that was freed ahead of it, then the least one that was never used.
func TestWhichSlot(t *testing.T) {
	a := New[string](7)
	told := map[int]api.Handle{}
	put := func(slot, gen int) {
		t.Helper()
		h, ok := a.Put("x")
		if h != (api.Handle{Slot: slot, Gen: gen}) || !ok {
			t.Errorf("%v, %v, not %v, %v", h, ok, slot, gen)
		}
		told[slot] = h
	}
	free := func(slots ...int) {
		t.Helper()
		for _, n := range slots {
			if !a.Free(told[n]) {
				t.Errorf("%v isn't freed", told[n])
			}
		}
	}
	put(1, 1)
	free(1)
	put(1, 2) // not the second one, which was never used
	put(2, 1)
	put(3, 1)
	put(4, 1)
	free(2)
	put(2, 2)
	put(5, 1)
	free(3, 1, 4)
	put(4, 2)
	put(1, 3)
	free(5, 4)
	put(4, 3)
	put(5, 2)
	put(3, 2)
	put(6, 1)
	free(6, 5, 4, 3, 2, 1)
	put(1, 4)
	put(2, 3)
	free(1)
	put(1, 5)
	put(3, 3)
	put(4, 4)
	put(5, 3)
	put(6, 2)
	put(7, 1)
	if h, ok := a.Put("x"); h != (api.Handle{}) || ok {
		t.Error(h, ok)
	}
	free(7)
	put(7, 2)
}

// P9.3: each handle, right or wrong, at an arena in which some slots have something, some had, and some never had: Get tells it, Free does it, and a wrong one changes nothing.
func TestHandles(t *testing.T) {
	ofAll(t, testHandles[int], testHandles[string], testHandles[leaf], testHandles[any])
}

func testHandles[T comparable](t *testing.T, thing func(int) T) {
	const slots = 5
	grown := func() *both[T] {
		b := start[T](t, slots)
		for n := range 4 {
			b.put(thing(n))
		}
		b.free(b.told[1])
		b.put(thing(4)) // into the second one
		b.free(b.told[2])
		b.free(b.told[3])
		b.put(thing(5)) // into the fourth one
		b.check()
		return b
	}
	asked := wrongs(slots)
	for slot := -1; slot <= slots+1; slot++ {
		for gen := -1; gen <= 4; gen++ {
			asked = append(asked, api.Handle{Slot: slot, Gen: gen})
		}
	}
	freed := 0
	for _, h := range asked {
		b := grown()
		b.get(h)
		b.check()
		live := b.a.Live()
		b.free(h)
		b.check()
		freed += live - b.a.Live()
		b.get(h)
		b.free(h) // there is nothing any more
		b.check()
		for n := range slots {
			b.put(thing(10 + n))
			b.check()
		}
	}
	if freed != 3 {
		t.Errorf("%v handles were right", freed)
	}
}

// P9.3: the handle of what lay in a slot ahead doesn't free what lies there now, nor any earlier one.
func TestStale(t *testing.T) {
	b := start[string](t, 1)
	for n := range 50 {
		h := b.put(text(n))
		for _, old := range b.told[:n] {
			b.get(old)
			b.free(old)
		}
		b.check()
		if x, ok := b.a.Get(h); x != text(n) || !ok {
			t.Error(n, x, ok)
		}
		b.free(h)
		b.check()
	}
}

// P9.3: what lies there stays what it was, whatever is put and freed beside it.
func TestStays(t *testing.T) {
	ofAll(t, testStays[int], testStays[string], testStays[leaf], testStays[any])
}

func testStays[T comparable](t *testing.T, thing func(int) T) {
	const slots = 3000
	a := New[T](slots)
	want := map[api.Handle]T{}
	look := func() {
		t.Helper()
		if a.Live() != len(want) || a.Room() != slots-len(want) {
			t.Errorf("%v and %v, not %v", a.Live(), a.Room(), len(want))
		}
		for h, x := range want {
			if got, ok := a.Get(h); got != x || !ok {
				t.Fatalf("%v: %v, %v, not %v", h, got, ok, x)
			}
		}
	}
	var beside []api.Handle
	for n := range slots {
		x := thing(n % 60)
		h, ok := a.Put(x)
		if !ok || want[h] != *new(T) {
			t.Fatal(n, h, ok)
		}
		if n%3 == 0 {
			want[h] = x
		} else {
			beside = append(beside, h)
		}
	}
	for range 3 {
		for _, h := range beside {
			if !a.Free(h) {
				t.Fatal(h)
			}
		}
		look()
		for i := range beside {
			h, ok := a.Put(thing(i % 50))
			if _, there := want[h]; !ok || there {
				t.Fatal(h, ok, there)
			}
			beside[i] = h
		}
	}
}

// P9.1 to P9.4: of all rows of seven Puts and Frees, of Frees with any handle that was told, too, what is told behind each.
func TestAllRows(t *testing.T) {
	ofAll(t, testAllRows[int], testAllRows[string], testAllRows[leaf], testAllRows[any])
}

func testAllRows[T comparable](t *testing.T, thing func(int) T) {
	for slots := range 5 {
		goOn(t, slots, nil, thing)
	}
}

// goOn does a row to a new arena (0: a Put; else a Free of the handle told so many-th), and then all rows that begin with it.
func goOn[T comparable](t *testing.T, slots int, row []int, thing func(int) T) {
	b := start[T](t, slots)
	for n, x := range row {
		if x == 0 {
			b.put(thing(n))
		} else {
			b.free(b.told[x-1])
		}
	}
	b.check()
	if len(row) == 7 {
		return
	}
	for x := range len(b.told) + 1 {
		goOn(t, slots, append(slices.Clone(row), x), thing)
	}
}

// P9.4: in many turns no handle is told twice, and of those that were freed none finds anything, or frees it.
func TestNoHandleTwice(t *testing.T) {
	ofAll(t, testNoHandleTwice[int], testNoHandleTwice[string], testNoHandleTwice[leaf], testNoHandleTwice[any])
}

func testNoHandleTwice[T comparable](t *testing.T, thing func(int) T) {
	for _, slots := range []int{1, 2, 3, 10, 100} {
		a := New[T](slots)
		told := map[api.Handle]bool{}
		var lie, gone []api.Handle
		row := chance(slots, 20000)
		for i, c := range row {
			if c%2 == 0 && len(lie) > 0 {
				n := int(row[len(row)-1-i]) % len(lie)
				if !a.Free(lie[n]) {
					t.Fatal(lie[n])
				}
				gone = append(gone, lie[n])
				lie = slices.Delete(lie, n, n+1)
				continue
			}
			h, ok := a.Put(thing(i % 40))
			if ok != (len(lie) < slots) || told[h] || h.Slot > slots {
				t.Fatal(h, ok)
			}
			if ok {
				told[h] = true
				lie = append(lie, h)
			}
		}
		if len(told) < 5000 || len(told) != len(lie)+len(gone) || a.Live() != len(lie) {
			t.Errorf("%v, %v, %v, %v", len(told), len(lie), len(gone), a.Live())
		}
		for _, h := range gone {
			if x, ok := a.Get(h); x != *new(T) || ok || a.Free(h) {
				t.Fatal(h, x, ok)
			}
		}
		for _, h := range lie {
			if !a.Free(h) {
				t.Fatal(h)
			}
		}
	}
}

// P9.1 to P9.3: the most slots that there may be, all of them.
func TestMost(t *testing.T) {
	a := New[int](most)
	for n := 1; n <= most; n++ {
		if h, ok := a.Put(n); h != (api.Handle{Slot: n, Gen: 1}) || !ok {
			t.Fatal(n, h, ok)
		}
	}
	if h, ok := a.Put(7); h != (api.Handle{}) || ok || a.Live() != most || a.Room() != 0 {
		t.Error(h, ok, a.Live(), a.Room())
	}
	for n := 1; n <= most; n++ {
		h := api.Handle{Slot: n, Gen: 1}
		if x, ok := a.Get(h); x != n || !ok || !a.Free(h) {
			t.Fatal(h, x, ok)
		}
	}
	if a.Live() != 0 || a.Room() != most {
		t.Error(a.Live(), a.Room())
	}
	for n := most; n > 0; n-- {
		if h, ok := a.Put(-n); h != (api.Handle{Slot: n, Gen: 2}) || !ok {
			t.Fatal(n, h, ok)
		}
	}
	if h, ok := a.Put(7); h != (api.Handle{}) || ok {
		t.Error(h, ok)
	}
	for n := 1; n <= most; n++ {
		if x, ok := a.Get(api.Handle{Slot: n, Gen: 2}); x != -n || !ok {
			t.Fatal(n, x, ok)
		}
	}
}

// R5: what is put isn't changed by what is done to a variable that it was put from, nor by what is done to what Get told.
func TestThingsAreOwn(t *testing.T) {
	a := New[leaf](2)
	x := branch(3)
	h, _ := a.Put(x)
	x.name, x.down[0].Slot, x.high = "other", 99, 99
	for range 2 {
		got, ok := a.Get(h)
		if got != branch(3) || !ok {
			t.Error(got, ok)
		}
		got.name, got.down[1].Gen, got.high = "other", 99, 99
	}
}

// R6: two arenas are two: what is done to one isn't done to the other, and a handle finds what lies in each.
func TestTwo(t *testing.T) {
	one, other := start[string](t, 3), start[string](t, 3)
	h := one.put("a")
	other.check()
	other.free(h)
	other.get(h)
	other.put("b")
	other.put("c")
	one.check()
	other.free(h)
	one.get(h)
	one.check()
	other.put("d")
	one.put("e")
	one.check()
	other.check()
}

// What was freed isn't kept, though its slot isn't used again; what lies there is.
func TestFreedIsNotKept(t *testing.T) {
	a := New[*[1000]int](4)
	lay := func() (api.Handle, weak.Pointer[[1000]int]) {
		x := new([1000]int)
		h, ok := a.Put(x)
		if !ok {
			t.Error("no room")
		}
		return h, weak.Make(x)
	}
	first, gone := lay()
	second, there := lay()
	a.Free(first)
	runtime.GC()
	if gone.Value() != nil {
		t.Error("what was freed is kept")
	}
	if x, ok := a.Get(second); x == nil || x != there.Value() || !ok {
		t.Error("what lies there isn't kept")
	}
}

// Memory grows with the slots that were used, so that an arena of the most slots costs nothing till then.
func TestNothingAhead(t *testing.T) {
	var arenas []*Arena[[1000]int]
	if n := testing.AllocsPerRun(100, func() { arenas = []*Arena[[1000]int]{New[[1000]int](most)} }); n > 2 { // of the list, and of the arena
		t.Errorf("%v allocations", n)
	}
	arenas = nil
	for range 1000 { // which would be some 8000 gigabytes
		a := New[[1000]int](most)
		a.Put([1000]int{1})
		arenas = append(arenas, a)
	}
	for _, a := range arenas {
		if x, ok := a.Get(api.Handle{Slot: 1, Gen: 1}); x[0] != 1 || !ok || a.Room() != most-1 {
			t.Fatal(x[0], ok)
		}
	}
}

// chance are bytes that look as if they came by chance, and are always the same.
func chance(seed, long int) []byte {
	b := make([]byte, long)
	x := uint32(seed*2654435761 + 1)
	for i := range b {
		x = x*1664525 + 1013904223
		b[i] = byte(x >> 24)
	}
	return b
}

// P9.1 to P9.4: long rows.
func TestLongRows(t *testing.T) {
	for seed := range 60 {
		b := chance(seed, 300)
		play(t, b, number)
		play(t, b, text)
		play(t, b, branch)
	}
}

// play does to an arena what bytes say.
func play[T comparable](t *testing.T, row []byte, thing func(int) T) {
	t.Helper()
	slots := 5
	if len(row) > 0 {
		slots = int(row[0] % 20)
	}
	b := start[T](t, slots)
	for i := 1; i+1 < len(row); i += 2 {
		x := int(row[i+1])
		switch c := row[i] % 8; {
		case c < 4:
			b.put(thing(x % 50))
		case c < 7 && len(b.told) > 0:
			// One of the last that were told, as of the first most are gone.
			b.free(b.told[max(0, len(b.told)-1-x%(2*slots))])
		default:
			b.free(api.Handle{Slot: x%24 - 1, Gen: x / 24})
		}
		b.count()
	}
	b.check()
}

// All promises, at whatever is done.
func FuzzArena(f *testing.F) {
	f.Add([]byte{})
	f.Add(chance(1, 100))
	f.Add(chance(2, 400))
	f.Fuzz(func(t *testing.T, row []byte) {
		row = row[:min(len(row), 400)]
		play(t, row, number)
		play(t, row, text)
		play(t, row, branch)
	})
}

// All promises, with any one handle, and any number of slots.
func FuzzHandle(f *testing.F) {
	f.Add(3, 1, 1)
	f.Add(5, 2, 2)
	f.Add(-1, 0, -1)
	f.Add(most+1, math.MaxInt, math.MinInt)
	f.Fuzz(func(t *testing.T, slots, slot, gen int) {
		if got := New[string](slots) != nil; got != (slots >= 0 && slots <= 1048576) {
			t.Fatal(slots, got)
		}
		h := api.Handle{Slot: slot, Gen: gen}
		b := start[string](t, slots&7)
		for n := range 12 {
			b.put(text(n))
			b.get(h)
			b.free(h)
			b.check()
			if n%3 == 2 && len(b.told) > 0 {
				b.free(b.told[max(0, len(b.told)-2)])
			}
		}
	})
}
