package name

import (
	"slices"
	"strings"
	"testing"

	"holt/api"
)

// wellFormed tells whether bytes are well-formed UTF-8, by the table of bytes that may stand behind each other.
func wellFormed(s string) bool {
	for s != "" {
		n := oneRune(s)
		if n == 0 {
			return false
		}
		s = s[n:]
	}
	return true
}

// oneRune is how many bytes the first rune has, 0 if there is none that is well-formed.
func oneRune(s string) int {
	for _, row := range [][]string{
		{"\x00\x7f"},
		{"\xc2\xdf", "\x80\xbf"},
		{"\xe0\xe0", "\xa0\xbf", "\x80\xbf"},
		{"\xe1\xec", "\x80\xbf", "\x80\xbf"},
		{"\xed\xed", "\x80\x9f", "\x80\xbf"},
		{"\xee\xef", "\x80\xbf", "\x80\xbf"},
		{"\xf0\xf0", "\x90\xbf", "\x80\xbf", "\x80\xbf"},
		{"\xf1\xf3", "\x80\xbf", "\x80\xbf", "\x80\xbf"},
		{"\xf4\xf4", "\x80\x8f", "\x80\xbf", "\x80\xbf"},
	} {
		if len(s) >= len(row) && within(s[:len(row)], row) {
			return len(row)
		}
	}
	return 0
}

// within tells whether each byte is between the two of its place.
func within(s string, row []string) bool {
	for i, pair := range row {
		if s[i] < pair[0] || s[i] > pair[1] {
			return false
		}
	}
	return true
}

// isName tells whether a text is a name, byte by byte, as the chapter's words say it.
func isName(s string) bool {
	if len(s) < 1 || len(s) > 20 {
		return false
	}
	for i := range len(s) {
		if s[i] < 32 || s[i] == 127 || s[i] == '/' {
			return false
		}
	}
	return wellFormed(s)
}

// namesOf are the names of a path, and whether it is one, as the chapter's words say it.
func namesOf(path string) ([]string, bool) {
	if path == "/" {
		return nil, true
	}
	if path == "" || len(path) > 400 {
		return nil, false
	}
	var l []string
	for path != "" {
		if path[0] != '/' {
			return nil, false
		}
		end := 1
		for end < len(path) && path[end] != '/' {
			end++
		}
		if !isName(path[1:end]) {
			return nil, false
		}
		l = append(l, path[1:end])
		path = path[end:]
	}
	return l, true
}

// pathOf is the path of names, and whether there is one, as the chapter's words say it.
func pathOf(l []string) (string, bool) {
	path := ""
	for _, s := range l {
		if !isName(s) {
			return "", false
		}
		path += "/" + s
	}
	if path == "" {
		return "/", true
	}
	if len(path) > 400 {
		return "", false
	}
	return path, true
}

// checkRight holds Right against the words.
func checkRight(t *testing.T, s string) {
	t.Helper()
	if got, want := Right(s), isName(s); got != want {
		t.Errorf("Right(%q) = %v, not %v", s, got, want)
	}
}

// checkPath holds Split and Cut, and Join of what was split, against the words.
func checkPath(t *testing.T, path string) {
	t.Helper()
	want, ok := namesOf(path)
	l, e := Split(path)
	up, last, e2 := Cut(path)
	if !ok {
		if e != api.ErrName || len(l) != 0 {
			t.Errorf("Split(%q) = %q, %v, not ErrName", path, l, e)
		}
		if e2 != api.ErrName || up != "" || last != "" {
			t.Errorf("Cut(%q) = %q, %q, %v, not ErrName", path, up, last, e2)
		}
		return
	}
	if e != api.OK || !slices.Equal(l, want) {
		t.Errorf("Split(%q) = %q, %v, not %q", path, l, e, want)
	}
	if s, e := Join(l); s != path || e != api.OK {
		t.Errorf("Join(%q) = %q, %v, not %q", l, s, e, path)
	}
	if len(want) == 0 {
		if e2 != api.ErrName || up != "" || last != "" {
			t.Errorf("Cut(%q) = %q, %q, %v, not ErrName", path, up, last, e2)
		}
		return
	}
	n := len(want) - 1
	wantUp, _ := pathOf(want[:n])
	if e2 != api.OK || up != wantUp || last != want[n] {
		t.Errorf("Cut(%q) = %q, %q, %v, not %q, %q", path, up, last, e2, wantUp, want[n])
	}
}

// checkJoin holds Join, and Split of what was joined, against the words.
func checkJoin(t *testing.T, l []string) {
	t.Helper()
	want, ok := pathOf(l)
	path, e := Join(l)
	if !ok {
		if e != api.ErrName || path != "" {
			t.Errorf("Join(%q) = %q, %v, not ErrName", l, path, e)
		}
		return
	}
	if e != api.OK || path != want {
		t.Errorf("Join(%q) = %q, %v, not %q", l, path, e, want)
	}
	if back, e := Split(path); e != api.OK || !slices.Equal(back, l) {
		t.Errorf("Split(%q) = %q, %v, not %q", path, back, e, l)
	}
}

// long is a path of so many bytes, from 2 on: of names as long as they may be, and what is left.
func long(size int) string {
	b := strings.Builder{}
	for left := size; left > 0; {
		n := min(left, 21)
		if left == 22 { // a stroke alone would be left
			n = 20
		}
		b.WriteString("/" + strings.Repeat("x", n-1))
		left -= n
	}
	return b.String()
}

// P3.1: texts that are names.
func TestRightNames(t *testing.T) {
	for _, s := range []string{
		"a", "bc", " ", "  ", "a b", ".", "..", "~", "\\", "é", "€", "😀", "é€😀", "\u0080", "\u009f", "\u00a0",
		"\u07ff", "\u0800", "\ud7ff", "\ue000", "\ufffd", "\ufffe", "\uffff", "\U00010000", "\U0010ffff", "\u2028", "∕", "⁄", "／",
		"12345678901234567890", "éééééééééé", "😀😀😀😀😀", "\ufffd\ufffd\ufffd\ufffd\ufffd\ufffdab", "e\u0301", "\u0301",
	} {
		if !Right(s) {
			t.Errorf("%q is a name", s)
		}
		checkRight(t, s)
	}
}

// P3.1: texts that are none.
func TestRightNone(t *testing.T) {
	for _, s := range []string{
		"", "/", "//", "/a", "a/", "a/b", "\x00", "\x1f", "\x7f", "a\x00", "\x00a", "a\nb", "a\tb", "a\x7f", "\x7fa",
		"123456789012345678901", "ééééééééééé", "éééééééééé1", "😀😀😀😀😀1", "€€€€€€€", strings.Repeat("a", 256), strings.Repeat("a", 276), strings.Repeat("a", 100000),
		"\x80", "\xbf", "\xc0", "\xc1", "\xc3", "a\xc3", "\xc3a", "\xe2\x82", "\xe2\x82a", "\xf0\x9f\x98", "\xf5", "\xfe", "\xff",
		"\xc0\xaf", "\xc0\x80", "\xc1\xbf", "\xe0\x80\xaf", "\xe0\x9f\xbf", "\xf0\x80\x80\xaf", "\xf0\x8f\xbf\xbf",
		"\xed\xa0\x80", "\xed\xbf\xbf", "\xed\xa0\xbd\xed\xb8\x80", "\xf4\x90\x80\x80", "\xf7\xbf\xbf\xbf", "\ufffd\xff", "\xef\xbf",
	} {
		if Right(s) {
			t.Errorf("%q is no name", s)
		}
		checkRight(t, s)
	}
}

// P3.1: all bytes, and all pairs of them, at all places of a short text.
func TestRightBytes(t *testing.T) {
	for i := range 256 {
		s := string([]byte{byte(i)})
		for _, x := range []string{s, s + "a", "a" + s, "a" + s + "b", "é" + s, s + "é"} {
			checkRight(t, x)
		}
		for k := range 256 {
			checkRight(t, s+string([]byte{byte(k)}))
		}
	}
}

// P3.1: bytes behind each other at which the kinds of runes begin and end.
func TestRightEdgesOfRunes(t *testing.T) {
	edges := []byte{0x1f, 0x20, 0x2f, 0x41, 0x7e, 0x7f, 0x80, 0x8f, 0x90, 0x9f, 0xa0, 0xbf, 0xc0, 0xc1, 0xc2, 0xdf, 0xe0, 0xe1, 0xec, 0xed, 0xee, 0xef, 0xf0, 0xf1, 0xf3, 0xf4, 0xf5, 0xff}
	for _, a := range edges {
		for _, b := range edges {
			for _, c := range edges {
				checkRight(t, string([]byte{a, b, c}))
				for _, d := range edges {
					checkRight(t, string([]byte{a, b, c, d}))
				}
			}
		}
	}
}

// P3.1: all runes.
func TestRightRunes(t *testing.T) {
	for r := rune(0); r <= 0x10ffff; r++ {
		want := r >= 32 && r != 127 && r != '/' // one of a pair is told as U+FFFD, which is a name
		if Right(string(r)) != want {
			t.Errorf("Right of rune %x isn't %v", r, want)
		}
	}
}

// P3.1: a name's length is told in bytes, not in runes.
func TestRightLengths(t *testing.T) {
	for _, one := range []string{"a", "é", "€", "😀"} {
		for n := range 30 {
			s := strings.Repeat(one, n)
			if want := n > 0 && n*len(one) <= 20; Right(s) != want {
				t.Errorf("Right(%q) isn't %v", s, want)
			}
		}
	}
}

// P3.1: what is wrong is found at every place of a name of every length.
func TestRightPlaces(t *testing.T) {
	for size := 1; size <= 20; size++ {
		for at := range size {
			for _, x := range []byte{0, 31, '/', 127, 128, 0xc3, 255} {
				b := []byte(strings.Repeat("a", size))
				b[at] = x
				if Right(string(b)) {
					t.Errorf("%q is no name", b)
				}
			}
		}
	}
}

// The chapter's examples, and DOC.md's paths.
func TestExamples(t *testing.T) {
	if l, e := Split("/a/bc"); e != api.OK || !slices.Equal(l, []string{"a", "bc"}) {
		t.Error(l, e)
	}
	if s, e := Join([]string{"a", "bc"}); e != api.OK || s != "/a/bc" {
		t.Error(s, e)
	}
	if up, last, e := Cut("/a/bc"); e != api.OK || up != "/a" || last != "bc" {
		t.Error(up, last, e)
	}
	for _, s := range []string{"a/b", "//", "/a/"} {
		if l, e := Split(s); e != api.ErrName || len(l) != 0 {
			t.Errorf("Split(%q) = %q, %v", s, l, e)
		}
		if up, last, e := Cut(s); e != api.ErrName || up != "" || last != "" {
			t.Errorf("Cut(%q) = %q, %q, %v", s, up, last, e)
		}
	}
}

// P3.1, P3.2: the root's path has no names, and nothing to cut off.
func TestRoot(t *testing.T) {
	if l, e := Split("/"); e != api.OK || len(l) != 0 {
		t.Error(l, e)
	}
	for _, l := range [][]string{nil, {}} {
		if s, e := Join(l); e != api.OK || s != "/" {
			t.Error(s, e)
		}
	}
	if up, last, e := Cut("/"); e != api.ErrName || up != "" || last != "" {
		t.Error(up, last, e)
	}
	if up, last, e := Cut("/a"); e != api.OK || up != "/" || last != "a" {
		t.Error(up, last, e)
	}
}

// P3.1, P3.2: paths, and texts that are none.
func TestPaths(t *testing.T) {
	for _, s := range []string{"/", "/a", "/a/b", "/a/a", "/ ", "/ / ", "/./..", "/é/€/😀", "/\ufffd", "/12345678901234567890", "/a/12345678901234567890/b"} {
		if _, e := Split(s); e != api.OK {
			t.Errorf("%q is a path", s)
		}
		checkPath(t, s)
	}
	for _, s := range []string{
		"", "a", "a/", "a/b", " /a", "//", "///", "/a/", "//a", "/a//b", "/a/b/", "/a//", "\\a", "é", "∕a",
		"/\n", "/a\x00", "/a/\x1f", "/\x7f/a", "/a/\xc3", "/\xc3/a", "/\xe2/\x82/\xac", "\xff/a", "/a\xff", "/\xed\xa0\x80", "/\xc0\xaf",
		"/123456789012345678901", "/a/123456789012345678901/b", "/éééééééééé1", strings.Repeat("/", 400), strings.Repeat("/", 401),
	} {
		if _, e := Split(s); e != api.ErrName {
			t.Errorf("%q is no path", s)
		}
		checkPath(t, s)
	}
}

// P3.1, P3.2: the longest path, and one longer, by names of all lengths.
func TestLongestPath(t *testing.T) {
	for size := 2; size <= 460; size++ {
		path := long(size)
		if len(path) != size {
			t.Fatalf("the test's own path has %d bytes, not %d", len(path), size)
		}
		_, e := Split(path)
		_, _, e2 := Cut(path)
		_, e3 := Join(strings.Split(path[1:], "/"))
		want := api.OK
		if size > 400 {
			want = api.ErrName
		}
		if e != want || e2 != want || e3 != want {
			t.Errorf("a path of %d bytes: Split %v, Cut %v, Join %v, not %v", size, e, e2, e3, want)
		}
		checkPath(t, path)
		checkJoin(t, strings.Split(path[1:], "/"))
	}
	for _, n := range []int{199, 200, 201, 5000} {
		l := slices.Repeat([]string{"a"}, n)
		checkPath(t, "/"+strings.Join(l, "/"))
		checkJoin(t, l)
	}
	wide := slices.Repeat([]string{"é€"}, 66) // 396 bytes
	checkJoin(t, append(slices.Clone(wide), "abc"))
	checkJoin(t, append(slices.Clone(wide), "abcd"))
	checkJoin(t, append(slices.Clone(wide), "é€"))
	checkPath(t, "/"+strings.Repeat("a", 1000000))
}

// P3.1: one that is no name, at any place, makes no path, whatever text would come of it.
func TestJoinNone(t *testing.T) {
	for _, bad := range []string{"", "/", "/a", "a/b", "b/", "\x00", "\x1f", "\x7f", "\xc3", "\xed\xa0\x80", "123456789012345678901", strings.Repeat("a", 1000)} {
		for at := range 4 {
			l := []string{"a", "bc", "é"}
			l = slices.Insert(l, at, bad)
			if s, e := Join(l); e != api.ErrName || s != "" {
				t.Errorf("Join(%q) = %q, %v", l, s, e)
			}
		}
		if s, e := Join([]string{bad}); e != api.ErrName || s != "" {
			t.Errorf("Join of %q = %q, %v", bad, s, e)
		}
	}
	// Halves of a rune that would be well-formed together, were there no stroke between.
	checkJoin(t, []string{"\xc3", "\xa9"})
}

// P3.1 to P3.3: all short texts of some runes, and halves of them.
func TestShortTexts(t *testing.T) {
	seen := map[string]string{}
	var put func(s string, left int)
	put = func(s string, left int) {
		checkRight(t, s)
		checkPath(t, s)
		if l, e := Split(s); e == api.OK {
			key := strings.Join(l, "\x00")
			if other, ok := seen[key]; ok {
				t.Errorf("%q and %q have the same names", s, other)
			}
			seen[key] = s
		}
		if left == 0 {
			return
		}
		for _, x := range []string{"/", "a", "b", "\xc3", "\xa9", "\n"} {
			put(s+x, left-1)
		}
	}
	put("", 6)
}

// P3.3: lists of names are paths, each another one, and come back.
func TestShortLists(t *testing.T) {
	seen := map[string]bool{}
	var put func(l []string, left int)
	put = func(l []string, left int) {
		checkJoin(t, l)
		s, e := Join(l)
		if e != api.OK || seen[s] {
			t.Errorf("Join(%q) = %q, %v", l, s, e)
		}
		seen[s] = true
		if left == 0 {
			return
		}
		for _, x := range []string{"a", "b", "ab", "é", ".", " "} {
			put(append(slices.Clone(l), x), left-1)
		}
	}
	put(nil, 5)
}

// P3.2: cut till nothing is left, a path tells its names from behind.
func TestCutAll(t *testing.T) {
	path := "/a/b c/é/a/12345678901234567890/x"
	want, _ := namesOf(path)
	var got []string
	for path != "/" {
		up, last, e := Cut(path)
		if e != api.OK {
			t.Fatal(path, e)
		}
		if len(up) >= len(path) {
			t.Fatal("a path that is cut isn't shorter:", path, up)
		}
		got = append(got, last)
		path = up
	}
	slices.Reverse(got)
	if !slices.Equal(got, want) {
		t.Error(got)
	}
}

// R5: lists that are handed in aren't changed nor kept, and those that are answered are of their own.
func TestListsOfTheirOwn(t *testing.T) {
	room := []string{"a", "b", "c", "rest"}
	l := room[:3]
	s, e := Join(l)
	if e != api.OK || s != "/a/b/c" || !slices.Equal(room, []string{"a", "b", "c", "rest"}) {
		t.Error(s, e, room)
	}
	l[0] = "z"
	if s != "/a/b/c" {
		t.Error(s)
	}
	one, _ := Split("/a/b/c")
	two, _ := Split("/a/b/c")
	one[0] = "z"
	_ = append(one[:1], "y", "x")
	if !slices.Equal(two, []string{"a", "b", "c"}) {
		t.Error(two)
	}
	if again, e := Split("/a/b/c"); e != api.OK || !slices.Equal(again, two) {
		t.Error(again, e)
	}
}

// R6: the same again is answered the same, whatever was asked between.
func TestAgain(t *testing.T) {
	for range 3 {
		checkPath(t, "/a/b")
		checkPath(t, "//")
		checkPath(t, long(400))
		checkPath(t, long(401))
		checkJoin(t, nil)
		checkJoin(t, []string{"x", ""})
	}
}

func FuzzName(f *testing.F) {
	for _, s := range []string{"", "/", "/a/bc", "a/b", "//", "/a/", "é", "/é/€", "\xc3", "/\xed\xa0\x80", "/\ufffd", long(400), long(401)} {
		f.Add(s)
	}
	f.Fuzz(func(t *testing.T, s string) {
		checkRight(t, s)
		checkPath(t, s)
		checkPath(t, "/"+s)
		checkJoin(t, strings.Split(s, "/"))
		checkJoin(t, strings.Split(s, ","))
	})
}
