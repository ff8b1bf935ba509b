package epoch

import (
	"math"
	"runtime"
	"slices"
	"testing"

	"holt/api"
)

// none is what None is, as the chapter's words say it.
const none = 4611686018427387904

// words is a limbo as the chapter's words say it: all that was ever retired, in order, and which of them went.
type words struct {
	now  int
	ever []entry
}

// entry is a handle that was retired, by which epoch, and whether it still waits.
type entry struct {
	h     api.Handle
	by    int
	waits bool
}

func (w *words) retire(l []api.Handle) {
	for _, h := range l {
		w.ever = append(w.ever, entry{h: h, by: w.now, waits: true})
	}
}

func (w *words) waiting() (l []api.Handle) {
	for _, x := range w.ever {
		if x.waits {
			l = append(l, x.h)
		}
	}
	return l
}

func (w *words) free(least int) (l []api.Handle) {
	for i, x := range w.ever {
		below, two := x.by < least, x.by+2 <= w.now
		if x.waits && below && two {
			l = append(l, x.h)
			w.ever[i].waits = false
		}
	}
	return l
}

// lowest is the least epoch that is pinned: it is sought from 0 on.
func lowest(pins []int) int {
	pinned := slices.DeleteFunc(slices.Clone(pins), func(p int) bool { return p <= 0 })
	if len(pinned) == 0 {
		return none
	}
	slices.Sort(pinned)
	return pinned[0] - 1
}

// both is a limbo, and that by the words, to which the same is done.
type both struct {
	t *testing.T
	l *Limbo
	w *words
}

func start(t *testing.T) *both {
	t.Helper()
	l := New()
	if l == nil {
		t.Fatal("New is nil")
	}
	b := &both{t: t, l: l, w: &words{}}
	b.check()
	return b
}

func (b *both) retire(l ...api.Handle) {
	b.t.Helper()
	b.l.Retire(l)
	b.w.retire(l)
	b.check()
}

func (b *both) advance(times int) {
	b.t.Helper()
	for range times {
		b.l.Advance()
		b.w.now++
		b.check()
	}
}

// free frees in both, and tells what went.
func (b *both) free(least int) []api.Handle {
	b.t.Helper()
	ahead := len(b.w.waiting())
	want := b.w.free(least)
	if got := b.l.Free(least); !slices.Equal(got, want) {
		b.t.Errorf("in %v, Free(%v) = %v, not %v", b.w.now, least, got, want)
	}
	if len(want)+len(b.w.waiting()) != ahead {
		b.t.Errorf("Free(%v): some were lost", least)
	}
	b.check()
	return want
}

// check holds all that is told against the words; it is told twice.
func (b *both) check() {
	b.t.Helper()
	for range 2 {
		if n := b.l.Now(); n != b.w.now {
			b.t.Errorf("Now: %v, not %v", n, b.w.now)
		}
		if l, want := b.l.Waiting(), b.w.waiting(); !slices.Equal(l, want) {
			b.t.Errorf("in %v, Waiting: %v, not %v", b.w.now, l, want)
		}
	}
}

// hand is a handle by a number, each another one.
func hand(n int) api.Handle { return api.Handle{Slot: n, Gen: n%5 + 1} }

// hands are so many, from one number on.
func hands(from, many int) (l []api.Handle) {
	for n := range many {
		l = append(l, hand(from+n))
	}
	return l
}

// odd are handles that no arena tells: here, they are like others.
func odd() []api.Handle {
	return []api.Handle{{}, {Slot: -1, Gen: -1}, {Slot: math.MaxInt, Gen: math.MinInt}, {Gen: 1}, {Slot: 1}, {Slot: math.MinInt, Gen: math.MaxInt}}
}

// bounds are numbers that epochs up to one are held against.
func bounds(now int) []int {
	l := []int{math.MinInt, math.MinInt + 1, math.MinInt + 2, -none, -1 << 32, -2, -1}
	for n := range now + 4 {
		l = append(l, n)
	}
	return append(l, 1<<31, 1<<32, 1<<32+1, none-1, none, none+1, math.MaxInt-1, math.MaxInt)
}

func TestExample(t *testing.T) {
	l := New()
	h := api.Handle{Slot: 5, Gen: 3}
	l.Retire([]api.Handle{h})
	l.Advance()
	l.Advance()
	if got := l.Free(0); len(got) != 0 {
		t.Error(got)
	}
	if got := l.Free(1); !slices.Equal(got, []api.Handle{h}) {
		t.Error(got)
	}
	if got := l.Waiting(); len(got) != 0 {
		t.Error(got)
	}
}

// P10.1: a new one is in the epoch 0, and nothing waits, so that nothing goes.
func TestNew(t *testing.T) {
	if None != none {
		t.Error(None)
	}
	b := start(t)
	if b.l.Now() != 0 || len(b.l.Waiting()) != 0 {
		t.Error(b.l.Now(), b.l.Waiting())
	}
	for _, least := range bounds(3) {
		if got := b.free(least); len(got) != 0 {
			t.Error(least, got)
		}
	}
}

// P10.1: each Advance is one more, whatever waits.
func TestAdvance(t *testing.T) {
	l := New()
	for n := range 100000 {
		if l.Now() != n {
			t.Fatal(l.Now(), n)
		}
		l.Advance()
	}
	b := start(t)
	for n := range 40 {
		b.retire(hand(n))
		b.advance(n % 4)
		b.free(n)
	}
}

// P10.1: what is retired waits behind what was retired ahead of it, each as often as it was retired, in one epoch and in several.
func TestRetire(t *testing.T) {
	for _, between := range []int{0, 1, 2, 7} {
		b := start(t)
		for _, l := range [][]api.Handle{nil, {}, hands(9, 1), {}, hands(1, 3), {hand(9)}, {hand(4), hand(4), hand(4)}, nil, odd(), {hand(3), hand(2), hand(1)}, hands(100, 300), odd()} {
			ahead := b.l.Waiting()
			b.retire(l...)
			if got := b.l.Waiting(); !slices.Equal(got, slices.Concat(ahead, l)) {
				t.Errorf("behind Retire(%v): %v", l, got)
			}
			b.advance(between)
		}
	}
}

// P10.1, P10.2: of several that were retired by some epochs, in each epoch behind that, and by each number, what goes, and what waits on.
func TestFree(t *testing.T) {
	for _, by := range [][]int{{0}, {1}, {2}, {0, 0}, {0, 1}, {0, 2}, {1, 4}, {0, 1, 2}, {0, 0, 3, 3, 3}, {2, 3, 4, 5}, {0, 1, 1, 2, 3, 5}} {
		last := by[len(by)-1]
		for now := last; now <= last+4; now++ {
			for _, least := range bounds(now) {
				b := start(t)
				for i, e := range by {
					b.advance(e - b.w.now)
					b.retire(hands(10*i, i%3+1)...)
				}
				b.advance(now - b.w.now)
				b.free(least)
				if again := b.free(least); len(again) != 0 {
					t.Errorf("by %v, in %v, below %v, %v went twice", by, now, least, again)
				}
				b.retire(hand(99))
				b.free(none)
				b.advance(1)
				b.free(none)
				b.advance(2)
				b.free(none)
			}
		}
	}
}

// P10.2: what was retired by an epoch goes by one more, not by just it, and two epochs behind it, not one.
func TestFreeEdges(t *testing.T) {
	for e := range 20 {
		for behind := range 5 {
			for least := e - 2; least <= e+4; least++ {
				l := New()
				for range e {
					l.Advance()
				}
				l.Retire(hands(1, 2))
				for range behind {
					l.Advance()
				}
				got := l.Free(least)
				if goes := least > e && behind >= 2; goes != (len(got) == 2) || goes != (len(l.Waiting()) == 0) || len(got)+len(l.Waiting()) != 2 {
					t.Errorf("by %v, in %v, below %v: %v", e, e+behind, least, got)
				}
			}
		}
	}
}

// P10.2: of a handle that was retired twice, by two epochs, the one goes that is long enough ago, and a handle that went may wait again.
func TestFreeSameHandle(t *testing.T) {
	b := start(t)
	b.retire(hand(1), hand(1))
	b.advance(1)
	b.retire(hand(1), hand(2), hand(1))
	b.advance(1)
	if got := b.free(none); !slices.Equal(got, []api.Handle{hand(1), hand(1)}) {
		t.Error(got)
	}
	b.retire(hand(1))
	b.advance(1)
	if got := b.free(2); !slices.Equal(got, []api.Handle{hand(1), hand(2), hand(1)}) {
		t.Error(got)
	}
	if got := b.free(none); len(got) != 0 {
		t.Error(got)
	}
	b.advance(1)
	if got := b.free(none); !slices.Equal(got, []api.Handle{hand(1)}) {
		t.Error(got)
	}
}

// P10.1, P10.2: all rows of seven deeds: Retires of none, one and two, Advances, and Frees by numbers about those of the epochs.
func TestAllRows(t *testing.T) {
	goOn(t, nil)
}

// goOn does a row to a new limbo, and then all rows that begin with it.
func goOn(t *testing.T, row []int) {
	b := start(t)
	for i, x := range row {
		switch x {
		case 0:
			b.advance(1)
		case 1, 2:
			b.retire(hands(2*i, x)...)
		case 3:
			b.free(none)
		default:
			b.free(x - 3)
		}
	}
	if len(row) == 7 {
		return
	}
	for x := range 6 {
		goOn(t, append(slices.Clone(row), x))
	}
}

// P10.1, P10.2: long rows of all that may be done, with many that wait.
func TestLongRows(t *testing.T) {
	for seed := range 60 {
		b := start(t)
		row := chance(seed, 400)
		for i, c := range row {
			d := int(row[len(row)-1-i])
			switch c % 8 {
			case 0, 1, 2:
				b.retire(hands(d%7, d%(seed%20+2))...)
			case 3, 4:
				b.advance(1)
			case 5:
				b.advance(d % 4)
			case 6:
				b.free(b.w.now - d%6)
			default:
				b.free([]int{none, b.w.now + 1, 0, -1, math.MaxInt, b.w.now / 2}[d%6])
			}
		}
		b.advance(3)
		b.free(none)
		if len(b.l.Waiting()) != 0 {
			t.Error(seed, b.l.Waiting())
		}
	}
}

// P10.3: of pins that are none, and others, in all orders of up to four of them.
func TestLeast(t *testing.T) {
	some := []int{math.MinInt, math.MinInt + 1, -none, -2, -1, 0, 1, 2, 3, 7, 256, 1<<32 + 1, none - 1, none}
	var all func(pins []int)
	all = func(pins []int) {
		if got, want := Least(pins), lowest(pins); got != want {
			t.Errorf("Least(%v) = %v, not %v", pins, got, want)
		}
		if len(pins) < 4 {
			for _, p := range some {
				all(append(slices.Clone(pins), p))
			}
		}
	}
	all(nil)
}

// P10.3: what is told, by numbers that are written out.
func TestLeastIs(t *testing.T) {
	for _, x := range []struct {
		pins []int
		want int
	}{
		{nil, none},
		{[]int{}, none},
		{[]int{0}, none},
		{[]int{0, 0, 0}, none},
		{[]int{-1}, none},
		{[]int{math.MinInt, 0, -7}, none},
		{[]int{1}, 0},
		{[]int{2}, 1},
		{[]int{0, 2}, 1},
		{[]int{2, -3}, 1},
		{[]int{-3, 1}, 0},
		{[]int{5, 5, 5}, 4},
		{[]int{9, 4, 6}, 3},
		{[]int{4, 6, 9}, 3},
		{[]int{9, 6, 4}, 3},
		{[]int{9, 0, 1}, 0},
		{[]int{none}, none - 1},
		{[]int{none, none}, none - 1},
		{[]int{none, 3}, 2},
		{[]int{0, none, -1}, none - 1},
	} {
		if got := Least(x.pins); got != x.want {
			t.Errorf("Least(%v) = %v, not %v", x.pins, got, x.want)
		}
	}
}

// P10.3: one pinned epoch among many that are later, and that are none, at each place.
func TestLeastOfMany(t *testing.T) {
	for place := range 300 {
		pins := make([]int, 300)
		for i := range pins {
			pins[i] = []int{0, -i, 1000 + i}[i%3]
		}
		pins[place] = 500
		if got := Least(pins); got != 499 {
			t.Error(place, got)
		}
	}
}

// P10.4: without pins, behind three Advances, nothing waits behind a Free of None, whatever was retired ahead, and whatever is freed between.
func TestNothingWaitsOn(t *testing.T) {
	for seed := range 30 {
		for _, between := range []bool{false, true} {
			b := start(t)
			for i, c := range chance(seed, 60) {
				b.retire(hands(i, int(c%4))...)
				b.advance(int(c/16) % 3)
			}
			for range 3 {
				b.advance(1)
				if between {
					b.free(Least([]int{0, -1}))
				}
			}
			b.free(Least(nil))
			if got := b.l.Waiting(); len(got) != 0 {
				t.Error(seed, between, got)
			}
		}
	}
}

// P10.4: what is retired while an epoch is pinned waits as long as that is, however often there are an Advance and a Free; then it goes.
func TestWaitsWhilePinned(t *testing.T) {
	for _, ahead := range []int{0, 1, 5} {
		for _, late := range []int{0, 1, 3} {
			for long := range 12 {
				b := start(t)
				b.advance(ahead)
				pins := []int{0, b.l.Now() + 1, -4}
				b.advance(late)
				kept := hands(10, 3)
				b.retire(kept...)
				for n := range long {
					b.advance(1)
					if got := b.free(Least(pins)); len(got) != 0 {
						t.Errorf("pinned, %v went", got)
					}
					b.free(Least(append([]int{b.l.Now() + 1}, pins...)))
					if n%3 == 0 {
						b.retire(hand(50 + n))
						kept = append(kept, hand(50+n))
					}
				}
				if got := b.l.Waiting(); !slices.Equal(got, kept) {
					t.Errorf("pinned, %v wait", got)
				}
				pins[1] = 0
				b.advance(2)
				if got := b.free(Least(pins)); !slices.Equal(got, kept) {
					t.Errorf("not pinned any more, %v went", got)
				}
			}
		}
	}
}

// P10.4: with a reader behind the other, who pins a while, what goes is only what was retired ahead of all that are pinned.
func TestReaders(t *testing.T) {
	for seed := range 20 {
		b := start(t)
		pins := make([]int, 4)
		by := map[api.Handle]int{}
		for i, c := range chance(seed, 500) {
			who := int(c/8) % len(pins)
			switch c % 8 {
			case 0, 1:
				pins[who] = b.l.Now() + 1
			case 2, 3:
				pins[who] = 0
			case 4, 5:
				h := hand(i)
				b.retire(h)
				by[h] = b.l.Now()
			default:
				b.advance(1)
				for _, h := range b.free(Least(pins)) {
					for _, p := range pins {
						if p > 0 && p-1 <= by[h] {
							t.Errorf("%v was retired by %v, and went while %v are pinned", h, by[h], pins)
						}
					}
				}
			}
		}
	}
}

// R5: what is handed to Retire may be changed, and what Waiting and Free tell: what waits stays as it was.
func TestListsAreOwn(t *testing.T) {
	l := New()
	handed := append(make([]api.Handle, 0, 100), hands(1, 4)...)
	l.Retire(handed)
	if !slices.Equal(handed, hands(1, 4)) || !slices.Equal(handed[:9][4:], make([]api.Handle, 5)) {
		t.Error("the list that was handed in is changed")
	}
	spoil(handed)
	l.Advance()
	l.Retire(hands(5, 2))
	for range 3 {
		got := l.Waiting()
		if !slices.Equal(got, hands(1, 6)) {
			t.Error(got)
		}
		spoil(got)
	}
	l.Advance()
	went, wait := l.Free(1), l.Waiting()
	if !slices.Equal(went, hands(1, 4)) || !slices.Equal(wait, hands(5, 2)) {
		t.Error(went, wait)
	}
	spoil(went)
	if got := l.Waiting(); !slices.Equal(got, hands(5, 2)) || !slices.Equal(wait, got) {
		t.Error(got, wait)
	}
	spoil(wait)
	l.Retire(hands(7, 3))
	l.Advance()
	if got := l.Free(2); !slices.Equal(got, hands(5, 2)) {
		t.Error(got)
	}
	l.Advance()
	if got := l.Free(None); !slices.Equal(got, hands(7, 3)) {
		t.Error(got)
	}
	pins := []int{0, 7, -1, 3}
	if n := Least(pins); n != 2 || !slices.Equal(pins, []int{0, 7, -1, 3}) {
		t.Error(n, pins)
	}
}

// spoil changes a list, and all of its memory that lies behind it.
func spoil(l []api.Handle) {
	l = l[:cap(l)]
	for i := range l {
		l[i] = api.Handle{Slot: -99, Gen: -99}
	}
}

// R5: what was told stays as it was, whatever is done later.
func TestToldStays(t *testing.T) {
	l := New()
	l.Retire(hands(1, 5))
	l.Advance()
	l.Advance()
	l.Retire(hands(6, 5))
	wait := l.Waiting()
	went := l.Free(None)
	for n := range 50 {
		l.Retire(hands(100+n, 3))
		l.Advance()
		l.Free(None)
	}
	if !slices.Equal(wait, hands(1, 10)) || !slices.Equal(went, hands(1, 5)) {
		t.Error(wait, went)
	}
}

// R6: two limbos are two.
func TestTwoAreTwo(t *testing.T) {
	a, b := start(t), start(t)
	for i, c := range chance(3, 300) {
		one, other := a, b
		if c%2 == 0 {
			one, other = b, a
		}
		switch c / 2 % 4 {
		case 0, 1:
			one.retire(hands(i, int(c%5))...)
		case 2:
			one.advance(1)
		default:
			one.free(one.w.now - int(c/8)%3)
		}
		other.check()
	}
}

// What went isn't kept: of very many that waited, and went, the memory is free again, though one waits on, and if none does.
func TestGoneIsNotKept(t *testing.T) {
	size := func() int {
		runtime.GC()
		var m runtime.MemStats
		runtime.ReadMemStats(&m)
		return int(m.HeapAlloc)
	}
	for _, on := range []int{0, 1} {
		l := New()
		ahead := size()
		l.Retire(make([]api.Handle, 1<<20))
		l.Advance()
		l.Retire(hands(1, on))
		if size()-ahead < 1<<24 {
			t.Error("they don't wait")
		}
		l.Advance()
		if n := len(l.Free(None)); n != 1<<20 {
			t.Error(n)
		}
		if more := size() - ahead; more > 1<<20 {
			t.Errorf("%v bytes are kept, though %v wait", more, on)
		}
		l.Advance()
		if n := len(l.Free(None)); n != on {
			t.Error(n)
		}
	}
}

// Very many wait, while an epoch is pinned that lasts, and each Free ends soon.
func TestManyWait(t *testing.T) {
	l := New()
	const many = 100000
	for n := range many {
		l.Retire(hands(n, 1))
		l.Advance()
		if got := l.Free(0); len(got) != 0 {
			t.Fatal(got)
		}
	}
	if got := l.Free(many / 2); !slices.Equal(got, hands(0, many/2)) {
		t.Error(len(got))
	}
	if got := l.Free(None); !slices.Equal(got, hands(many/2, many/2-1)) {
		t.Error(len(got))
	}
	if got := l.Waiting(); !slices.Equal(got, hands(many-1, 1)) {
		t.Error(got)
	}
}

// chance are so many bytes, the same for the same seed.
func chance(seed, long int) []byte {
	l := make([]byte, long)
	x := uint64(seed)*2862933555777941757 + 3037000493
	for i := range l {
		x = x*6364136223846793005 + 1442695040888963407
		l[i] = byte(x >> 33)
	}
	return l
}

// FuzzLimbo does what bytes say to a limbo, and to the words' one.
func FuzzLimbo(f *testing.F) {
	f.Add([]byte{0, 3, 1, 1, 0, 2, 9})
	f.Add(chance(1, 100))
	f.Fuzz(func(t *testing.T, row []byte) {
		if len(row) > 500 {
			return
		}
		b := start(t)
		for i, c := range row {
			d := int(c / 4)
			switch c % 4 {
			case 0:
				b.retire(hands(i, d)...)
			case 1:
				b.advance(d % 4)
			case 2:
				b.free(b.w.now + d%8 - 5)
			default:
				b.free([]int{none, math.MinInt, math.MaxInt, 0}[d%4])
			}
		}
	})
}

// FuzzLeast holds Least of four pins against the words.
func FuzzLeast(f *testing.F) {
	f.Add(0, 7, 3, -1)
	f.Add(none, math.MinInt, 1, 0)
	f.Fuzz(func(t *testing.T, a, b, c, d int) {
		pins := []int{a, b, c, d}
		if slices.Max(pins) > none {
			return
		}
		for n := range 5 {
			if got, want := Least(pins[:n]), lowest(pins[:n]); got != want {
				t.Errorf("Least(%v) = %v, not %v", pins[:n], got, want)
			}
		}
	})
}
