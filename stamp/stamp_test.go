package stamp

import (
	"math"
	"slices"
	"testing"

	"holt/api"
)

// edges are numbers at and about all that the chapter names, and the least and greatest there are.
func edges() []int {
	l := []int{math.MinInt, math.MinInt + 1, math.MaxInt - 1, math.MaxInt}
	for _, n := range []int{0, 2, 7, 256, 512, 65536, 16777215, 1 << 31, 1 << 32, 1 << 55, 1 << 56, 1 << 62} {
		l = append(l, n-1, n, n+1, -n-1, -n, -n+1)
	}
	slices.Sort(l)
	return slices.Compact(l)
}

// stamps are all whose numbers are edges, wrong ones too.
func stamps() []api.Stamp {
	var l []api.Stamp
	for _, n := range edges() {
		for _, r := range edges() {
			l = append(l, api.Stamp{N: n, R: r})
		}
	}
	return l
}

// isRight tells whether a stamp is, as the chapter's words say it.
func isRight(s api.Stamp) bool {
	return s.N >= 1 && s.N <= 16777215 && s.R >= 0 && s.R <= 255
}

// held is how two stamps are to each other, as the chapter's words say it.
func held(a, b api.Stamp) int {
	switch {
	case a.N < b.N, a.N == b.N && a.R < b.R:
		return -1
	case b.N < a.N, a.N == b.N && b.R < a.R:
		return 1
	}
	return 0
}

// after is the stamp behind those seen, as the chapter's words say it.
func after(seen, r, most int) (api.Stamp, api.Errno) {
	switch {
	case seen < 0, seen > 16777215, most < 0, most > 16777215, r < 0, r > 255:
		return api.Stamp{}, 1
	case seen >= most:
		return api.Stamp{}, 5
	}
	return api.Stamp{N: seen + 1, R: r}, 0
}

// checkStamp holds Right and ID, and Of of that ID, against the words.
func checkStamp(t *testing.T, s api.Stamp) {
	t.Helper()
	id := 0
	if isRight(s) {
		id = s.N*256 + s.R
	}
	if got := Right(s); got != isRight(s) {
		t.Errorf("Right(%v) = %v", s, got)
	}
	if got := ID(s); got != id {
		t.Errorf("ID(%v) = %v, not %v", s, got, id)
	}
	want := s
	if !isRight(s) {
		want = api.Stamp{}
	}
	if back, ok := Of(id); back != want || ok != isRight(s) {
		t.Errorf("Of(%v) = %v, %v, not %v", id, back, ok, want)
	}
}

// checkOf holds Of, and ID of what it tells, against the words: the IDs of right stamps are all from 256 to the greatest of 32 bits.
func checkOf(t *testing.T, id int) {
	t.Helper()
	s, ok := Of(id)
	if want := id >= 256 && id <= 4294967295; ok != want {
		t.Errorf("Of(%v) = %v, %v", id, s, ok)
	}
	switch {
	case !ok && s != api.Stamp{}:
		t.Errorf("Of(%v) = %v beside false", id, s)
	case ok && (!isRight(s) || ID(s) != id || s.N*256+s.R != id):
		t.Errorf("Of(%v) = %v, whose ID is %v", id, s, ID(s))
	}
}

// checkNext holds Next against the words.
func checkNext(t *testing.T, seen, r, most int) {
	t.Helper()
	s, e := Next(seen, r, most)
	if want, err := after(seen, r, most); s != want || e != err {
		t.Errorf("Next(%v, %v, %v) = %v, %v, not %v, %v", seen, r, most, s, e, want, err)
	}
}

// checkPair holds Cmp against the words, both ways round, and the IDs' order against the stamps'.
func checkPair(t *testing.T, a, b api.Stamp) {
	t.Helper()
	want := held(a, b)
	if got := Cmp(a, b); got != want {
		t.Errorf("Cmp(%v, %v) = %v, not %v", a, b, got, want)
	}
	if got := Cmp(b, a); got != -want {
		t.Errorf("Cmp(%v, %v) = %v, not %v", b, a, got, -want)
	}
	if !isRight(a) || !isRight(b) {
		return
	}
	x, y := ID(a), ID(b)
	if (x < y) != (want < 0) || (x == y) != (want == 0) {
		t.Errorf("IDs of %v and %v: %v and %v", a, b, x, y)
	}
}

func TestExample(t *testing.T) {
	s, e := Next(4, 7, 100)
	if s != (api.Stamp{N: 5, R: 7}) || e != api.OK {
		t.Error(s, e)
	}
	if id := ID(s); id != 1287 {
		t.Error(id)
	}
	if back, ok := Of(1287); back != s || !ok {
		t.Error(back, ok)
	}
}

// P4.1.
func TestRight(t *testing.T) {
	for _, x := range []struct {
		n, r int
		want bool
	}{
		{1, 0, true}, {1, 255, true}, {16777215, 0, true}, {16777215, 255, true}, {5, 7, true},
		{0, 0, false}, {0, 255, false}, {-1, 0, false}, {-5, 7, false}, {16777216, 0, false}, {16777216, 255, false},
		{1, -1, false}, {1, 256, false}, {16777215, -1, false}, {16777215, 256, false},
		{math.MinInt, 0, false}, {math.MaxInt, 0, false}, {1, math.MinInt, false}, {1, math.MaxInt, false},
		{1<<32 + 1, 0, false}, {1, 1 << 32, false},
	} {
		if got := Right(api.Stamp{N: x.n, R: x.r}); got != x.want {
			t.Errorf("Right(%v, %v) = %v", x.n, x.r, got)
		}
	}
	for _, s := range stamps() {
		checkStamp(t, s)
	}
}

// P4.1: of any stamps.
func TestCmp(t *testing.T) {
	for _, x := range []struct {
		a, b api.Stamp
		want int
	}{
		{api.Stamp{N: 3, R: 9}, api.Stamp{N: 4, R: 1}, -1},
		{api.Stamp{N: 3, R: 8}, api.Stamp{N: 3, R: 9}, -1},
		{api.Stamp{N: 3, R: 9}, api.Stamp{N: 3, R: 9}, 0},
		{api.Stamp{}, api.Stamp{}, 0},
		{api.Stamp{}, api.Stamp{N: 1}, -1},
		{api.Stamp{N: -1, R: 5}, api.Stamp{}, -1},
		{api.Stamp{N: 1, R: -1}, api.Stamp{N: 1}, -1},
		{api.Stamp{N: 1, R: 999}, api.Stamp{N: 2, R: -999}, -1},
		{api.Stamp{N: math.MinInt}, api.Stamp{N: math.MaxInt}, -1},
		{api.Stamp{R: math.MinInt}, api.Stamp{R: math.MaxInt}, -1},
		{api.Stamp{N: math.MinInt, R: math.MaxInt}, api.Stamp{N: math.MinInt, R: math.MinInt}, 1},
	} {
		if got := Cmp(x.a, x.b); got != x.want {
			t.Errorf("Cmp(%v, %v) = %v", x.a, x.b, got)
		}
		if got := Cmp(x.b, x.a); got != -x.want {
			t.Errorf("Cmp(%v, %v) = %v", x.b, x.a, got)
		}
	}
	l := stamps()
	for i := 0; i < len(l); i += 7 {
		for _, b := range l {
			checkPair(t, l[i], b)
		}
	}
}

// P4.2: each reason for an error, the first that is named, and the edges.
func TestNext(t *testing.T) {
	const most = 16777215
	for _, x := range []struct {
		seen, r, most, n int
		e                api.Errno
	}{
		{4, 7, 100, 5, 0}, {0, 0, 1, 1, 0}, {99, 255, 100, 100, 0}, {0, 255, most, 1, 0}, {most - 1, 255, most, most, 0},
		{0, 0, 0, 0, 5}, {1, 0, 1, 0, 5}, {2, 0, 1, 0, 5}, {100, 7, 100, 0, 5}, {101, 7, 100, 0, 5},
		{most, 0, most, 0, 5}, {most, 255, 0, 0, 5}, {most, 0, most - 1, 0, 5},
		{-1, 0, 5, 0, 1}, {most + 1, 0, 5, 0, 1}, {math.MinInt, 0, 5, 0, 1}, {math.MaxInt, 0, 5, 0, 1},
		{0, 0, -1, 0, 1}, {0, 0, most + 1, 0, 1}, {0, 0, math.MinInt, 0, 1}, {0, 0, math.MaxInt, 0, 1},
		{0, -1, 5, 0, 1}, {0, 256, 5, 0, 1}, {0, math.MinInt, 5, 0, 1}, {0, math.MaxInt, 5, 0, 1},
		{9, 256, 5, 0, 1}, {9, -1, 5, 0, 1}, {5, 0, -1, 0, 1}, {most + 1, 0, most, 0, 1}, {most, 0, most + 1, 0, 1}, {-1, -1, -1, 0, 1},
	} {
		s, e := Next(x.seen, x.r, x.most)
		want := api.Stamp{}
		if x.e == 0 {
			want = api.Stamp{N: x.n, R: x.r}
		}
		if s != want || e != x.e {
			t.Errorf("Next(%v, %v, %v) = %v, %v, not %v, %v", x.seen, x.r, x.most, s, e, want, x.e)
		}
	}
	for _, seen := range edges() {
		for _, r := range edges() {
			for _, most := range edges() {
				checkNext(t, seen, r, most)
			}
		}
	}
}

// P4.2: one that is next is right, and behind all of what was seen, whoever made it.
func TestNextIsBehind(t *testing.T) {
	for _, seen := range []int{0, 1, 4, 255, 256, api.MaxN - 1} {
		for r := range api.MaxReplicas {
			s, e := Next(seen, r, api.MaxN)
			if e != api.OK || !Right(s) || Cmp(s, api.Stamp{N: seen, R: api.MaxReplicas - 1}) != 1 {
				t.Error(seen, r, s, e)
			}
		}
	}
}

// P4.3: there and back.
func TestID(t *testing.T) {
	for _, x := range []struct{ n, r, id int }{
		{1, 0, 256}, {1, 255, 511}, {2, 0, 512}, {5, 7, 1287}, {16777215, 0, 4294967040}, {16777215, 255, 4294967295},
		{0, 0, 0}, {0, 255, 0}, {0, 256, 0}, {-1, 0, 0}, {-1, 512, 0}, {1, 256, 0}, {1, -1, 0}, {16777216, 0, 0},
		{1 << 56, 0, 0}, {1<<56 + 1, 0, 0}, {math.MaxInt, 255, 0}, {math.MinInt, 0, 0}, {1, math.MaxInt, 0}, {1, math.MinInt, 0},
	} {
		if id := ID(api.Stamp{N: x.n, R: x.r}); id != x.id {
			t.Errorf("ID(%v, %v) = %v, not %v", x.n, x.r, id, x.id)
		}
	}
	for n := 1; n <= api.MaxN; n += 4093 {
		for r := range api.MaxReplicas {
			checkStamp(t, api.Stamp{N: n, R: r})
		}
	}
}

// P4.3: numbers that are no stamp's, and those that are.
func TestOf(t *testing.T) {
	for _, id := range []int{math.MinInt, -1 << 32, -4294967295, -512, -511, -257, -256, -255, -1, 0, 1, 2, 255, 4294967296, 4294967297, 1<<32 + 256, 1 << 40, math.MaxInt} {
		if s, ok := Of(id); ok || s != (api.Stamp{}) {
			t.Errorf("Of(%v) = %v, %v", id, s, ok)
		}
	}
	for _, x := range []struct{ id, n, r int }{
		{256, 1, 0}, {257, 1, 1}, {511, 1, 255}, {512, 2, 0}, {1287, 5, 7}, {4294967295, 16777215, 255}, {4294967040, 16777215, 0}, {4294967039, 16777214, 255},
	} {
		if s, ok := Of(x.id); !ok || s != (api.Stamp{N: x.n, R: x.r}) {
			t.Errorf("Of(%v) = %v, %v", x.id, s, ok)
		}
	}
	for _, about := range edges() {
		for d := -520; d <= 520; d++ {
			checkOf(t, about+d)
		}
	}
}

// P4.3: an ID isn't the number of a node that is given, and is one of a node that is made.
func TestNoIDIsGiven(t *testing.T) {
	for _, node := range []int{api.Root, api.Trash, api.First - 1} {
		if s, ok := Of(node); ok {
			t.Error(node, s)
		}
	}
	if s, ok := Of(api.First); !ok || s != (api.Stamp{N: 1}) {
		t.Error(s, ok)
	}
}

// P4.4: of right stamps in their order, no ID stands behind the next one's, and none is another's.
func TestOneOrder(t *testing.T) {
	var l []api.Stamp
	for _, s := range stamps() {
		if isRight(s) {
			l = append(l, s)
		}
	}
	for n := 1; n <= 40; n++ {
		for r := 0; r <= 255; r += 5 {
			l = append(l, api.Stamp{N: n, R: r}, api.Stamp{N: api.MaxN + 1 - n, R: 255 - r})
		}
	}
	slices.Reverse(l)
	slices.SortFunc(l, Cmp)
	l = slices.Compact(l)
	for i := 1; i < len(l); i++ {
		if held(l[i-1], l[i]) != -1 || ID(l[i-1]) >= ID(l[i]) {
			t.Error(l[i-1], l[i])
		}
	}
}

// P4.4: of three, none stands ahead of one that it is behind.
func TestCmpIsAnOrder(t *testing.T) {
	few := []int{math.MinInt, -1, 0, 1, 255, 256, api.MaxN, math.MaxInt}
	var l []api.Stamp
	for _, n := range few {
		for _, r := range few {
			l = append(l, api.Stamp{N: n, R: r})
		}
	}
	for _, a := range l {
		for _, b := range l {
			if (Cmp(a, b) == 0) != (a == b) {
				t.Error(a, b)
			}
			for _, c := range l {
				if Cmp(a, b) < 0 && Cmp(b, c) < 0 && Cmp(a, c) >= 0 {
					t.Error(a, b, c)
				}
			}
		}
	}
}

func FuzzStamp(f *testing.F) {
	f.Add(5, 7, 4, 9, 100)
	f.Add(1, 0, 1, 255, 256)
	f.Add(api.MaxN, 255, api.MaxN, 256, api.MaxN)
	f.Add(math.MinInt, math.MaxInt, 0, -1, 1<<32)
	f.Fuzz(func(t *testing.T, n, r, m, q, id int) {
		a, b := api.Stamp{N: n, R: r}, api.Stamp{N: m, R: q}
		checkStamp(t, a)
		checkPair(t, a, b)
		checkNext(t, n, r, m)
		checkNext(t, n, q, id)
		checkOf(t, id)
	})
}
