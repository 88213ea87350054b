package names

import (
	"slices"
	"strings"
	"testing"

	"concentric/api"
)

// signs is a text of n letters.
func signs(n int) string { return strings.Repeat("x", n) }

// every is all texts of at most n of these bytes.
func every(bytes string, n int) []string {
	l := []string{""}
	for from := 0; n > 0; n-- {
		to := len(l)
		for _, s := range l[from:to] {
			for i := range len(bytes) {
				l = append(l, s+bytes[i:i+1])
			}
		}
		from = to
	}
	return l
}

// isName reads the promise sign by sign.
func isName(s string, most int) bool {
	for i := range len(s) {
		if c := s[i]; c <= 32 || c >= 127 || c == '>' {
			return false
		}
	}
	return len(s) >= 1 && len(s) <= most
}

// partsOf reads the promise as an automaton: a sign either begins a part or goes on with the last one.
func partsOf(path string) ([]string, bool) {
	var parts []string
	for i := range len(path) {
		switch {
		case path[i] == '>':
			parts = append(parts, "")
		case len(parts) == 0:
			return nil, false
		default:
			parts[len(parts)-1] += path[i : i+1]
		}
	}
	if path == ">" {
		return nil, true
	}
	for _, p := range parts {
		if !isName(p, 32) {
			return nil, false
		}
	}
	return parts, len(parts) >= 1 && len(parts) <= 16 && len(path) <= 168
}

// held holds Split, Join and Parent of a path against what it should be cut into.
func held(t *testing.T, path string, want []string, good bool) {
	t.Helper()
	parts, e := Split(path)
	up, last, f := Parent(path)
	if !good {
		if len(parts) != 0 || e != api.ErrName {
			t.Errorf("Split(%q) = %q, %v, want ErrName", path, parts, e)
		}
	} else if !slices.Equal(parts, want) || e != api.OK {
		t.Errorf("Split(%q) = %q, %v, want %q", path, parts, e, want)
	} else if got := Join(parts); got != path {
		t.Errorf("Join(Split(%q)) = %q", path, got)
	}
	if !good || len(want) == 0 {
		if up != "" || last != "" || f != api.ErrName {
			t.Errorf("Parent(%q) = %q, %q, %v, want ErrName", path, up, last, f)
		}
		return
	}
	wantLast := want[len(want)-1]
	wantUp := path[:len(path)-len(wantLast)-1]
	if len(want) == 1 {
		wantUp = ">"
	}
	if up != wantUp || last != wantLast || f != api.OK {
		t.Errorf("Parent(%q) = %q, %q, %v, want %q, %q", path, up, last, f, wantUp, wantLast)
	}
}

// P3.1: ordinary names and users, and what is neither.
func TestMay(t *testing.T) {
	for _, s := range []string{"a", "Z", "0", "*", "!", "~", "=", "?", "<", "a.b-c_D9", "a<b", "..", "\\", "\"", "/usr/x"} {
		if !May(s) || !User(s) {
			t.Errorf("%q: May %v, User %v, want both", s, May(s), User(s))
		}
	}
	for _, s := range []string{"", " ", ">", ">a", "a>", "a>b", ">>", "a b", " a", "a ", "\t", "a\n", "\x00", "a\x00", "\x7f", "a\x7f",
		"\x80", "\xff", "a\xff", "\u00e9", "\u0121", "\u013e", "\ufffd", "\U0001f600"} {
		if May(s) || User(s) {
			t.Errorf("%q: May %v, User %v, want neither", s, May(s), User(s))
		}
	}
}

// P3.1: each sign there is, alone and at each place of a longer text.
func TestSigns(t *testing.T) {
	for c := range 256 {
		one := string([]byte{byte(c)})
		want := c >= 33 && c <= 126 && c != 62
		for _, s := range []string{one, one + "ab", "a" + one + "b", "ab" + one, one + one, signs(15) + one, one + signs(15)} {
			if May(s) != want || User(s) != want {
				t.Errorf("%q: May %v, User %v, want %v", s, May(s), User(s), want)
			}
			if c != 62 {
				held(t, ">"+s, []string{s}, want)
				held(t, ">a>"+s+">b", []string{"a", s, "b"}, want)
			}
		}
	}
	for _, c := range []struct {
		sign byte
		want bool
	}{{0, false}, {31, false}, {32, false}, {33, true}, {61, true}, {62, false}, {63, true}, {126, true}, {127, false}, {128, false}, {255, false}} {
		if s := string([]byte{c.sign}); May(s) != c.want || User(s) != c.want {
			t.Errorf("sign %d: May %v, User %v, want %v", c.sign, May(s), User(s), c.want)
		}
	}
}

// P3.1: a name has 1 to 32 signs, a user 1 to 16; bytes are counted.
func TestLengths(t *testing.T) {
	if api.MaxName != 32 || api.MaxUsers != 16 {
		t.Fatal("limits")
	}
	for n := range 70 {
		s := signs(n)
		if May(s) != (n >= 1 && n <= 32) || User(s) != (n >= 1 && n <= 16) {
			t.Errorf("%d signs: May %v, User %v", n, May(s), User(s))
		}
	}
	for _, n := range []int{256, 257, 272, 288, 1 << 16, 1<<16 + 1, 1 << 20} {
		if s := signs(n); May(s) || User(s) {
			t.Errorf("%d signs: May %v, User %v", n, May(s), User(s))
		}
	}
}

// P3.1: a part of a path is a name, not a user.
func TestPartLengths(t *testing.T) {
	for _, n := range []int{1, 15, 16, 17, 31, 32, 33, 34} {
		s := signs(n)
		held(t, ">"+s+">a", []string{s, "a"}, n <= 32)
		held(t, ">a>"+s, []string{"a", s}, n <= 32)
		held(t, ">a>"+s+">b", []string{"a", s, "b"}, n <= 32)
	}
}

// P3.1: ordinary paths, cut, joined and told from their parents; the third is the chapter's example.
func TestPaths(t *testing.T) {
	for _, c := range []struct {
		path, up, last string
		parts          []string
	}{
		{">", "", "", nil},
		{">a", ">", "a", []string{"a"}},
		{">a>b", ">a", "b", []string{"a", "b"}},
		{">a>b>c", ">a>b", "c", []string{"a", "b", "c"}},
		{">udd>Project>user.x", ">udd>Project", "user.x", []string{"udd", "Project", "user.x"}},
		{">a>a>a", ">a>a", "a", []string{"a", "a", "a"}},
		{">*>!>~", ">*>!", "~", []string{"*", "!", "~"}},
	} {
		held(t, c.path, c.parts, true)
		want := api.OK
		if c.parts == nil {
			want = api.ErrName
		}
		if up, last, e := Parent(c.path); up != c.up || last != c.last || e != want {
			t.Errorf("Parent(%q) = %q, %q, %v, want %q, %q, %v", c.path, up, last, e, c.up, c.last, want)
		}
		if got := Join(c.parts); got != c.path {
			t.Errorf("Join(%q) = %q, want %q", c.parts, got, c.path)
		}
	}
}

// P3.1, R2: what is no path is refused, with nothing beside the error.
func TestNoPaths(t *testing.T) {
	for _, path := range []string{
		"", "a", "a>b", "a>", " >a", "\x00>a", "<a", "\xff>a",
		">>", ">>a", ">a>", ">a>>", ">a>>b", ">a>b>", ">>>", ">>a>b", ">a>b>>c",
		"> ", "> a", ">a ", ">a b", ">a>b c", ">a b>c", ">a\n", ">\x7f", ">a>\x7f>b", ">\u00e9", ">a>\u013e", ">a>\xff", ">\x00",
		">" + signs(33), ">a>" + signs(33), ">" + signs(33) + ">a",
	} {
		held(t, path, nil, false)
	}
}

// P3.1: every short text of a mark, a name's sign and one that is none.
func TestEveryShortPath(t *testing.T) {
	for _, path := range every(">a ", 8) {
		parts, good := partsOf(path)
		held(t, path, parts, good)
	}
}

// P3.1: a path has at most 168 signs, marks too.
func TestPathLengths(t *testing.T) {
	if api.MaxPath != 168 {
		t.Fatal("limits")
	}
	wide := strings.Repeat(">"+signs(32), 5)
	if len(wide) != 165 {
		t.Fatal("five names of 32 signs")
	}
	five := slices.Repeat([]string{signs(32)}, 5)
	held(t, wide, five, true)
	held(t, wide+">", nil, false)
	held(t, wide+">a", slices.Concat(five, []string{"a"}), true)
	held(t, wide+">ab", slices.Concat(five, []string{"ab"}), true)
	held(t, wide+">abc", nil, false)
	held(t, strings.Repeat(">a", 84), nil, false)
	held(t, strings.Repeat(">a", 1<<16), nil, false)
	held(t, strings.Repeat(">", 1<<20), nil, false)
}

// P3.1: a path has at most 16 parts, however long they are.
func TestDepths(t *testing.T) {
	if api.MaxDepth != 16 {
		t.Fatal("limits")
	}
	for n := 1; n <= 40; n++ {
		for _, name := range []string{"a", "bc"} {
			parts := slices.Repeat([]string{name}, n)
			held(t, strings.Repeat(">"+name, n), parts, n <= 16)
		}
	}
	// 16 parts that fill 168 signs; one sign more, or one part more, is too much.
	full := strings.Repeat(">"+signs(9), 15) + ">" + signs(17)
	if len(full) != 168 {
		t.Fatal("sixteen names of 168 signs in all")
	}
	held(t, full, append(slices.Repeat([]string{signs(9)}, 15), signs(17)), true)
	held(t, full+"x", nil, false)
	held(t, full[:len(full)-2]+">x", nil, false)
	held(t, strings.Repeat(">a", 16)+">", nil, false)
}

// P3.1: Split undoes Join, too, of parts that may be.
func TestJoin(t *testing.T) {
	for _, parts := range [][]string{nil, {}, {"a"}, {"x", "y"}, {signs(32)}, {"a", signs(32), "b"}, slices.Repeat([]string{"ab"}, 16)} {
		got, e := Split(Join(parts))
		if !slices.Equal(got, parts) || e != api.OK {
			t.Errorf("Split(Join(%q)) = %q, %v", parts, got, e)
		}
	}
}

// R1, R6: Join refuses nothing: each part stands behind a mark, whatever it is.
func TestJoinAnything(t *testing.T) {
	for _, c := range []struct {
		parts []string
		want  string
	}{
		{nil, ">"}, {[]string{}, ">"}, {[]string{""}, ">"}, {[]string{"", ""}, ">>"}, {[]string{"a", ""}, ">a>"}, {[]string{"", "a"}, ">>a"},
		{[]string{">"}, ">>"}, {[]string{"a>b", "c d"}, ">a>b>c d"}, {[]string{"\xff", signs(40)}, ">\xff>" + signs(40)},
		{slices.Repeat([]string{"abc"}, 1000), strings.Repeat(">abc", 1000)},
	} {
		if got := Join(c.parts); got != c.want {
			t.Errorf("Join(%q) = %q, want %q", c.parts, got, c.want)
		}
	}
}

// R4: a list that is handed in stays as it is, spare room too.
func TestJoinLeavesParts(t *testing.T) {
	room := []string{"a", "b", "c", "d"}
	for n := range 5 {
		Join(room[:n])
		if !slices.Equal(room, []string{"a", "b", "c", "d"}) {
			t.Fatalf("Join of the first %d changed %q", n, room)
		}
	}
}

// R4, R5: each answer is new memory, and hangs on nothing that was asked or done before.
func TestSplitAnew(t *testing.T) {
	want := []string{"a", "b", "c"}
	for range 3 {
		one, e := Split(">a>b>c")
		two, f := Split(">a>b>c")
		if !slices.Equal(one, want) || !slices.Equal(two, want) || e != api.OK || f != api.OK {
			t.Fatalf("Split = %q, %v, and %q, %v", one, e, two, f)
		}
		one = one[:cap(one)]
		for i := range one {
			one[i] = "z"
		}
		if !slices.Equal(two, want) {
			t.Fatalf("one answer changed another: %q", two)
		}
		if up, last, e := Parent(">a>b>c"); up != ">a>b" || last != "c" || e != api.OK {
			t.Fatalf("Parent = %q, %q, %v", up, last, e)
		}
		if l, e := Split(">a>"); len(l) != 0 || e != api.ErrName {
			t.Fatalf("Split of no path = %q, %v", l, e)
		}
	}
}
