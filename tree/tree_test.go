package tree

import (
	"fmt"
	"math"
	"slices"
	"strings"
	"testing"

	"concentric/api"
)

var (
	brackets = api.Brackets{R1: 1, R2: 2, R3: 3, Gates: 4}
	others   = api.Brackets{R1: 0, R2: 5, R3: 7, Gates: 1024}
)

func list(users ...string) []api.Term {
	var l []api.Term
	for _, user := range users {
		l = append(l, api.Term{User: user, F: api.Flags{R: true}})
	}
	return l
}

// rising is n users in order.
func rising(n int) []api.Term {
	var users []string
	for i := range n {
		users = append(users, fmt.Sprintf("u%03d", i))
	}
	return list(users...)
}

// full has something in every field, so that a field that its kind has not is seen if it is kept.
func full(kind, uid int) Branch {
	return Branch{Kind: kind, UID: uid, Dir: 99, Link: ">to>it", Object: true, ACL: list("*", "me"), B: brackets}
}

func segment(uid int) Branch {
	return Branch{Kind: Segment, UID: uid, ACL: list("*", "me"), B: brackets}
}

func directory(number int) Branch { return Branch{Kind: Directory, Dir: number} }

func link(path string) Branch { return Branch{Kind: Link, Link: path} }

func same(a, b Branch) bool {
	return a.Kind == b.Kind && a.UID == b.UID && a.Dir == b.Dir && a.Link == b.Link && a.Object == b.Object && a.B == b.B && slices.Equal(a.ACL, b.ACL)
}

func mustAdd(t *testing.T, x *Tree, dir int, name string, b Branch, want int) {
	t.Helper()
	if n, e := x.Add(dir, name, b); n != want || e != api.OK {
		t.Fatalf("Add(%d, %q, %v) = %d, %d, want %d, 0", dir, name, b, n, e, want)
	}
}

func mustDelete(t *testing.T, x *Tree, dir int, name string, want Branch) {
	t.Helper()
	if b, e := x.Delete(dir, name); !same(b, want) || e != api.OK {
		t.Fatalf("Delete(%d, %q) = %v, %d, want %v, 0", dir, name, b, e, want)
	}
}

func noAdd(t *testing.T, x *Tree, dir int, name string, b Branch, want api.Errno) {
	t.Helper()
	unchanged(t, "Add", x, func() {
		if n, e := x.Add(dir, name, b); n != 0 || e != want {
			t.Errorf("Add(%d, %q, %v) = %d, %d, want 0, %d", dir, name, b, n, e, want)
		}
	})
}

func noDelete(t *testing.T, x *Tree, dir int, name string, want api.Errno) {
	t.Helper()
	unchanged(t, "Delete", x, func() {
		if b, e := x.Delete(dir, name); !same(b, Branch{}) || e != want {
			t.Errorf("Delete(%d, %q) = %v, %d, want none, %d", dir, name, b, e, want)
		}
	})
}

// wantErr holds an error, of a call just made, against what it should be.
func wantErr(t *testing.T, what string, e, want api.Errno) {
	t.Helper()
	if e != want {
		t.Errorf("%s = %d, want %d", what, e, want)
	}
}

// refused makes a call that answers that error, and changes nothing.
func refused(t *testing.T, what string, x *Tree, want api.Errno, call func() api.Errno) {
	t.Helper()
	unchanged(t, what, x, func() { wantErr(t, what, call(), want) })
}

func wantLook(t *testing.T, x *Tree, dir int, name string, want Branch) {
	t.Helper()
	if b, ok := x.Look(dir, name); !same(b, want) || !ok {
		t.Errorf("Look(%d, %q) = %v, %v, want %v", dir, name, b, ok, want)
	}
}

func noLook(t *testing.T, x *Tree, dir int, name string) {
	t.Helper()
	if b, ok := x.Look(dir, name); !same(b, Branch{}) || ok {
		t.Errorf("Look(%d, %q) = %v, %v, want none", dir, name, b, ok)
	}
}

func wantUID(t *testing.T, x *Tree, uid, home int, want Branch) {
	t.Helper()
	if b, ok := x.ByUID(uid); !same(b, want) || !ok {
		t.Errorf("ByUID(%d) = %v, %v, want %v", uid, b, ok, want)
	}
	if dir, ok := x.Home(uid); dir != home || !ok {
		t.Errorf("Home(%d) = %d, %v, want %d", uid, dir, ok, home)
	}
}

func noUID(t *testing.T, x *Tree, uid int) {
	t.Helper()
	if b, ok := x.ByUID(uid); !same(b, Branch{}) || ok {
		t.Errorf("ByUID(%d) = %v, %v, want none", uid, b, ok)
	}
	if dir, ok := x.Home(uid); dir != 0 || ok {
		t.Errorf("Home(%d) = %d, %v, want none", uid, dir, ok)
	}
}

func wantNames(t *testing.T, x *Tree, dir int, want ...string) {
	t.Helper()
	if got := x.Names(dir); !slices.Equal(got, want) {
		t.Errorf("Names(%d) = %q, want %q", dir, got, want)
	}
	if got := x.Len(dir); got != len(want) {
		t.Errorf("Len(%d) = %d, want %d", dir, got, len(want))
	}
}

// told is all that can be asked of the directories and UIDs that a test has.
func told(x *Tree) string {
	var s strings.Builder
	for dir := -1; dir < 12; dir++ {
		l := x.Names(dir)
		fmt.Fprintf(&s, "%d: %q %d\n", dir, l, x.Len(dir))
		for _, name := range l {
			b, ok := x.Look(dir, name)
			fmt.Fprintf(&s, "%q: %+v %v\n", name, b, ok)
		}
	}
	for uid := -1; uid < 12; uid++ {
		b, ok := x.ByUID(uid)
		home, is := x.Home(uid)
		fmt.Fprintf(&s, "%d: %+v %v %d %v\n", uid, b, ok, home, is)
	}
	return s.String()
}

func unchanged(t *testing.T, what string, x *Tree, call func()) {
	t.Helper()
	before := told(x)
	call()
	if after := told(x); after != before {
		t.Errorf("%s changed\n%sto\n%s", what, before, after)
	}
}

// P7.1: the chapter's example.
func TestExample(t *testing.T) {
	mustAdd(t, New(), 0, "d", Branch{Kind: Directory}, 1)
}

// P7.1: the kinds are numbered from 1 on.
func TestKinds(t *testing.T) {
	if Segment != 1 || Directory != 2 || Link != 3 {
		t.Errorf("%d, %d, %d", Segment, Directory, Link)
	}
}

// P7.1: a new tree has a root, and nothing else.
func TestEmpty(t *testing.T) {
	x := New()
	wantNames(t, x, 0)
	wantNames(t, x, 1)
	noLook(t, x, 0, "a")
	noUID(t, x, 1)
	refused(t, "Unname", x, api.ErrNone, func() api.Errno { return x.Unname(0, "a") })
	noDelete(t, x, 0, "a", api.ErrNone)
	mustAdd(t, x, 0, "s", segment(1), 0)
	wantNames(t, x, 0, "s")
}

// P7.1: directories are numbered from 1 on as they are added, wherever they stand; other kinds and what is refused take no number.
func TestNumbers(t *testing.T) {
	x := New()
	mustAdd(t, x, 0, "a", directory(0), 1)
	mustAdd(t, x, 0, "s", segment(5), 0)
	mustAdd(t, x, 1, "b", full(Directory, 6), 2)
	mustAdd(t, x, 1, "l", link(">"), 0)
	noAdd(t, x, 0, "a", directory(0), api.ErrThere)
	noAdd(t, x, 3, "a", directory(0), api.ErrNone)
	noAdd(t, x, 0, "", directory(0), api.ErrName)
	noAdd(t, x, 0, "t", segment(5), api.ErrThere)
	noAdd(t, x, 0, "t", Branch{}, api.ErrKind)
	wantErr(t, "Name", x.Name(0, "a", "aa"), api.OK)
	mustAdd(t, x, 0, "c", directory(0), 3)
	mustAdd(t, x, 3, "a", directory(0), 4)
	wantLook(t, x, 0, "a", directory(1))
	wantLook(t, x, 0, "aa", directory(1))
	wantLook(t, x, 1, "b", directory(2))
	wantLook(t, x, 0, "c", directory(3))
	wantLook(t, x, 3, "a", directory(4))
}

// P7.1: no number is given twice: behind a Delete of the last one, of one before it, and of all.
func TestNoNumberTwice(t *testing.T) {
	x := New()
	mustAdd(t, x, 0, "a", directory(0), 1)
	mustAdd(t, x, 0, "b", directory(0), 2)
	mustDelete(t, x, 0, "b", directory(2))
	mustAdd(t, x, 0, "b", directory(0), 3)
	mustDelete(t, x, 0, "a", directory(1))
	mustAdd(t, x, 0, "a", directory(0), 4)
	mustDelete(t, x, 0, "a", directory(4))
	mustDelete(t, x, 0, "b", directory(3))
	for n := 5; n < 400; n++ {
		mustAdd(t, x, 0, "a", directory(0), n)
		mustDelete(t, x, 0, "a", directory(n))
	}
	mustAdd(t, New(), 0, "a", directory(0), 1)
}

// P7.1, R2, R3: of a directory that never was, or is gone, all calls answer ErrNone, ahead of every other error.
func TestNoDirectory(t *testing.T) {
	x := New()
	mustAdd(t, x, 0, "s", segment(7), 0)
	mustAdd(t, x, 0, "gone", directory(0), 1)
	mustAdd(t, x, 1, "s", segment(8), 0)
	mustAdd(t, x, 0, "d", directory(0), 2)
	mustDelete(t, x, 1, "s", segment(8))
	mustDelete(t, x, 0, "gone", directory(1))
	for _, dir := range []int{1, 3, 4, -1, -2, 99, math.MinInt, math.MaxInt} {
		for _, b := range []Branch{segment(9), directory(0), link(">"), segment(7), segment(0), link("no"), {}} {
			for _, name := range []string{"s", "new", "", "a>b"} {
				noAdd(t, x, dir, name, b, api.ErrNone)
			}
		}
		for _, name := range []string{"s", "d", "gone", "", "a>b"} {
			noLook(t, x, dir, name)
			noDelete(t, x, dir, name, api.ErrNone)
			refused(t, "Name", x, api.ErrNone, func() api.Errno { return x.Name(dir, name, "more") })
			refused(t, "Name", x, api.ErrNone, func() api.Errno { return x.Name(dir, name, "") })
			refused(t, "Unname", x, api.ErrNone, func() api.Errno { return x.Unname(dir, name) })
			refused(t, "Access", x, api.ErrNone, func() api.Errno { return x.Access(dir, name, list("")) })
			refused(t, "Ringed", x, api.ErrNone, func() api.Errno { return x.Ringed(dir, name, api.Brackets{R1: 9}) })
		}
		wantNames(t, x, dir)
	}
	mustAdd(t, x, 2, "e", directory(0), 3)
}

// P7.1: each kind has its own fields alone, when it is looked at and when it goes, whatever was handed in.
func TestAddKinds(t *testing.T) {
	x := New()
	whole := Branch{Kind: Segment, UID: 7, Object: true, ACL: list("*", "me"), B: brackets}
	mustAdd(t, x, 0, "s", full(Segment, 7), 0)
	mustAdd(t, x, 0, "d", full(Directory, 8), 1)
	mustAdd(t, x, 0, "l", full(Link, 9), 0)
	wantLook(t, x, 0, "s", whole)
	wantLook(t, x, 0, "d", directory(1))
	wantLook(t, x, 0, "l", link(">to>it"))
	wantUID(t, x, 7, 0, whole)
	for _, uid := range []int{0, 1, 8, 9} {
		noUID(t, x, uid)
	}
	mustAdd(t, x, 0, "s8", segment(8), 0)
	mustAdd(t, x, 0, "s9", segment(9), 0)
	mustDelete(t, x, 0, "s", whole)
	mustDelete(t, x, 0, "d", directory(1))
	mustDelete(t, x, 0, "l", link(">to>it"))
}

// P7.1, R6: what a Directory or a Link has not is not asked, whatever stands there; of a Segment neither Dir nor Link.
func TestAddUnasked(t *testing.T) {
	odd := Branch{UID: -5, Dir: -9, Link: "no path", ACL: list("b", "a", ""), B: api.Brackets{R1: 9, Gates: -1}}
	x := New()
	dir := odd
	dir.Kind = Directory
	mustAdd(t, x, 0, "d", dir, 1)
	wantLook(t, x, 0, "d", directory(1))
	way := odd
	way.Kind, way.Link = Link, ">"
	mustAdd(t, x, 0, "l", way, 0)
	wantLook(t, x, 0, "l", link(">"))
	seg := segment(3)
	seg.Dir, seg.Link = -9, "no path"
	mustAdd(t, x, 0, "s", seg, 0)
	wantLook(t, x, 0, "s", segment(3))
}

// P7.1: what is no kind.
func TestAddNoKind(t *testing.T) {
	x := New()
	for _, kind := range []int{0, -1, 4, 5, 257, 258, 1 << 32, 1<<32 + 1, math.MinInt, math.MaxInt} {
		noAdd(t, x, 0, "a", full(kind, 1), api.ErrKind)
		noAdd(t, x, 0, "a", Branch{Kind: kind}, api.ErrKind)
	}
}

// P7.1, R6: of several errors it is the one that stands first: the directory, the name, what is there, the kind, then the kind's own.
func TestAddOrder(t *testing.T) {
	x := New()
	mustAdd(t, x, 0, "s", segment(7), 0)
	mustAdd(t, x, 0, "d", directory(0), 1)
	badList, badRings, badBoth := segment(7), segment(7), segment(0)
	badList.ACL = list("a", "a")
	badRings.B.R1 = 3
	badBoth.ACL, badBoth.B = list(""), api.Brackets{R3: 8}
	for _, c := range []struct {
		dir  int
		name string
		b    Branch
		want api.Errno
	}{
		{5, "", Branch{}, api.ErrNone},
		{5, "s", Branch{}, api.ErrNone},
		{5, "new", segment(0), api.ErrNone},
		{5, "new", link(""), api.ErrNone},
		{0, "", Branch{}, api.ErrName},
		{0, "a>b", segment(0), api.ErrName},
		{0, "", segment(7), api.ErrName},
		{0, " ", link(""), api.ErrName},
		{0, "s", Branch{}, api.ErrThere},
		{0, "s", segment(0), api.ErrThere},
		{0, "d", link(""), api.ErrThere},
		{0, "d", Branch{Kind: 4}, api.ErrThere},
		{0, "new", Branch{Kind: 4, UID: 7}, api.ErrKind},
		{0, "new", segment(0), api.ErrArg},
		{0, "new", badList, api.ErrArg},
		{0, "new", badRings, api.ErrArg},
		{0, "new", badBoth, api.ErrArg},
		{0, "new", segment(7), api.ErrThere},
		{1, "s", segment(7), api.ErrThere},
		{0, "new", link(""), api.ErrName},
	} {
		noAdd(t, x, c.dir, c.name, c.b, c.want)
	}
	mustAdd(t, x, 1, "s", directory(0), 2)
}

// P7.1, P7.2: which names may be, in Add and as one more: 1 to 32 signs from 33 to 126, none of them `>`.
func TestWhichNames(t *testing.T) {
	var l []string
	for c := range 256 {
		one := string([]byte{byte(c)})
		l = append(l, one, "x"+one, one+"x")
	}
	for _, n := range []int{0, 1, 2, 31, 32, 33, 64, 1000} {
		l = append(l, strings.Repeat("n", n))
	}
	l = append(l, "\u00e9", "\u012a", ">", ">a", "a>b", "*", "**")
	for _, name := range l {
		x, y := New(), New()
		mustAdd(t, y, 0, "other", link(">"), 0)
		if !isName(name) {
			noAdd(t, x, 0, name, directory(0), api.ErrName)
			noLook(t, x, 0, name)
			refused(t, fmt.Sprintf("Name of %q", name), y, api.ErrName, func() api.Errno { return y.Name(0, "other", name) })
			noLook(t, y, 0, name)
			continue
		}
		mustAdd(t, x, 0, name, directory(0), 1)
		wantLook(t, x, 0, name, directory(1))
		wantNames(t, x, 0, name)
		wantErr(t, fmt.Sprintf("Name of %q", name), y.Name(0, "other", name), api.OK)
		wantLook(t, y, 0, name, link(">"))
		mustDelete(t, y, 0, name, link(">"))
		wantNames(t, y, 0)
	}
}

func deleted(x *Tree, dir int, name string) api.Errno {
	_, e := x.Delete(dir, name)
	return e
}

// P7.1: one name in several directories is several.
func TestSameNameElsewhere(t *testing.T) {
	x := New()
	mustAdd(t, x, 0, "a", directory(0), 1)
	mustAdd(t, x, 1, "a", directory(0), 2)
	mustAdd(t, x, 2, "a", segment(4), 0)
	wantErr(t, "Name", x.Name(2, "a", "b"), api.OK)
	wantErr(t, "Name", x.Name(1, "a", "b"), api.OK)
	mustAdd(t, x, 0, "b", link(">a>a"), 0)
	wantLook(t, x, 0, "a", directory(1))
	wantLook(t, x, 1, "a", directory(2))
	wantLook(t, x, 1, "b", directory(2))
	wantLook(t, x, 2, "a", segment(4))
	wantLook(t, x, 2, "b", segment(4))
	wantErr(t, "Unname", x.Unname(1, "a"), api.OK)
	mustDelete(t, x, 2, "b", segment(4))
	wantNames(t, x, 0, "a", "b")
	wantNames(t, x, 1, "b")
	wantNames(t, x, 2)
	mustDelete(t, x, 1, "b", directory(2))
	wantNames(t, x, 0, "a", "b")
	wantNames(t, x, 1)
}

// P7.1: a segment's number is 1 or more, and once in the whole tree; behind a Delete it may be added again.
func TestAddUID(t *testing.T) {
	x := New()
	mustAdd(t, x, 0, "d", directory(0), 1)
	for _, uid := range []int{0, -1, -7, math.MinInt} {
		noAdd(t, x, 0, "s", segment(uid), api.ErrArg)
	}
	mustAdd(t, x, 0, "a", segment(1), 0)
	mustAdd(t, x, 0, "b", segment(math.MaxInt), 0)
	wantUID(t, x, math.MaxInt, 0, segment(math.MaxInt))
	for _, dir := range []int{0, 1} {
		noAdd(t, x, dir, "c", segment(1), api.ErrThere)
		noAdd(t, x, dir, "c", segment(math.MaxInt), api.ErrThere)
	}
	mustDelete(t, x, 0, "a", segment(1))
	noUID(t, x, 1)
	mustAdd(t, x, 1, "c", segment(1), 0)
	wantUID(t, x, 1, 1, segment(1))
	noAdd(t, x, 0, "a", segment(1), api.ErrThere)
}

// lists is access lists, and whether they may be.
func lists() map[bool][][]api.Term {
	return map[bool][][]api.Term{
		true:  {nil, {}, list("*"), list("a"), list("!", "*", "a"), rising(16), list(strings.Repeat("u", 16))},
		false: {list(""), list("a", "a"), list("b", "a"), list("*", "!"), list("a>b"), list("a b"), rising(17), list(strings.Repeat("u", 17)), list("a", "")},
	}
}

// rings is brackets, and whether they may be.
func rings() map[bool][]api.Brackets {
	return map[bool][]api.Brackets{
		true:  {{}, {R3: 7}, {R1: 7, R2: 7, R3: 7}, {R1: 1, R2: 1, R3: 2}, {Gates: 1024}, brackets, others},
		false: {{R1: -1}, {R3: 8}, {R1: 1}, {R2: 1}, {R1: 2, R2: 1, R3: 3}, {R1: 8, R2: 8, R3: 8}, {Gates: -1}, {Gates: 1025}, {R1: math.MinInt, R2: 0, R3: math.MaxInt}},
	}
}

// P7.1: which access lists and brackets a Segment may be added with.
func TestAddListsAndBrackets(t *testing.T) {
	for good, all := range lists() {
		for _, l := range all {
			x, b := New(), segment(3)
			b.ACL = l
			if !good {
				noAdd(t, x, 0, "s", b, api.ErrArg)
				continue
			}
			mustAdd(t, x, 0, "s", b, 0)
			wantLook(t, x, 0, "s", b)
		}
	}
	for good, all := range rings() {
		for _, r := range all {
			x, b := New(), segment(3)
			b.B = r
			if !good {
				noAdd(t, x, 0, "s", b, api.ErrArg)
				continue
			}
			mustAdd(t, x, 0, "s", b, 0)
			wantLook(t, x, 0, "s", b)
		}
	}
}

// P7.1: a Link's path is one that names.Split takes, whether something stands there or not.
func TestAddLinkPaths(t *testing.T) {
	deep := strings.Repeat(">a", 16)
	long := strings.Repeat(">"+strings.Repeat("b", 32), 5)
	for _, path := range []string{">", ">a", ">a>b", ">not>there", ">l", deep, long, long + ">cc"} {
		x := New()
		mustAdd(t, x, 0, "l", link(path), 0)
		wantLook(t, x, 0, "l", link(path))
	}
	for _, path := range []string{"", "a", "a>b", ">>", ">a>", ">a>>b", ">a b", " >a", ">a\n", ">\u00e9", deep + ">a", ">" + strings.Repeat("b", 33), long + ">ccc", strings.Repeat(">a", 1000)} {
		noAdd(t, New(), 0, "l", link(path), api.ErrName)
	}
}

// P7.1: directories may stand deeper than a path can say.
func TestDeep(t *testing.T) {
	x := New()
	for n := range 300 {
		mustAdd(t, x, n, "d", directory(0), n+1)
	}
	mustAdd(t, x, 300, "s", segment(2), 0)
	wantUID(t, x, 2, 300, segment(2))
	for n := range 300 {
		wantErr(t, "Delete", deleted(x, n, "d"), api.ErrBusy)
	}
	mustDelete(t, x, 300, "s", segment(2))
	for n := 299; n >= 0; n-- {
		mustDelete(t, x, n, "d", directory(n+1))
	}
	wantNames(t, x, 0)
}

// P7.2: Look answers what stands there, of each kind, and nothing where nothing does.
func TestLook(t *testing.T) {
	x := New()
	object := segment(8)
	object.Object = true
	mustAdd(t, x, 0, "d", directory(0), 1)
	mustAdd(t, x, 1, "s", segment(7), 0)
	mustAdd(t, x, 1, "o", object, 0)
	mustAdd(t, x, 1, "l", link(">d>s"), 0)
	mustAdd(t, x, 1, "e", directory(0), 2)
	wantLook(t, x, 0, "d", directory(1))
	wantLook(t, x, 1, "s", segment(7))
	wantLook(t, x, 1, "o", object)
	wantLook(t, x, 1, "l", link(">d>s"))
	wantLook(t, x, 1, "e", directory(2))
	for _, name := range []string{"", "S", "ss", "s ", ">s", ">d>s", "d>s", "x", "\xff", strings.Repeat("s", 999)} {
		noLook(t, x, 1, name)
	}
	noLook(t, x, 0, "s")
	noLook(t, x, 2, "s")
}

// P7.2: all names of one thing show it, of each kind, and each counts.
func TestSeveralNames(t *testing.T) {
	for kind, b := range map[int]Branch{Segment: segment(5), Directory: directory(1), Link: link(">x")} {
		x := New()
		mustAdd(t, x, 0, "m", b, b.Dir)
		wantErr(t, "Name", x.Name(0, "m", "z"), api.OK)
		wantErr(t, "Name", x.Name(0, "z", "a"), api.OK)
		wantErr(t, "Name", x.Name(0, "m", "b"), api.OK)
		wantNames(t, x, 0, "a", "b", "m", "z")
		for _, name := range []string{"a", "b", "m", "z"} {
			wantLook(t, x, 0, name, b)
		}
		wantErr(t, "Unname", x.Unname(0, "m"), api.OK)
		wantErr(t, "Unname", x.Unname(0, "a"), api.OK)
		wantNames(t, x, 0, "b", "z")
		noLook(t, x, 0, "m")
		noLook(t, x, 0, "a")
		wantLook(t, x, 0, "b", b)
		wantLook(t, x, 0, "z", b)
		// A name that was taken away is free: for the same, and for another.
		wantErr(t, "Name", x.Name(0, "b", "m"), api.OK)
		mustAdd(t, x, 0, "a", link(">other"), 0)
		mustDelete(t, x, 0, "z", b)
		wantNames(t, x, 0, "a")
		wantLook(t, x, 0, "a", link(">other"))
		if kind == Segment {
			noUID(t, x, 5)
		}
	}
}

// P7.2, R3, R6: Name is refused in the order that the chapter says.
func TestNameRefused(t *testing.T) {
	x := New()
	mustAdd(t, x, 0, "s", segment(7), 0)
	mustAdd(t, x, 0, "d", directory(0), 1)
	mustAdd(t, x, 1, "e", link(">"), 0)
	wantErr(t, "Name", x.Name(0, "s", "t"), api.OK)
	for _, c := range []struct {
		dir        int
		name, more string
		want       api.Errno
	}{
		{0, "q", "z", api.ErrNone},
		{0, "q", "", api.ErrNone},
		{0, "q", "s", api.ErrNone},
		{0, "q", "q", api.ErrNone},
		{0, "", "", api.ErrNone},
		{0, "a>b", "z", api.ErrNone},
		{0, "e", "z", api.ErrNone},
		{1, "s", "z", api.ErrNone},
		{0, "s", "", api.ErrName},
		{0, "s", "a>b", api.ErrName},
		{0, "s", "a b", api.ErrName},
		{0, "d", strings.Repeat("n", 33), api.ErrName},
		{0, "s", "d", api.ErrThere},
		{0, "s", "s", api.ErrThere},
		{0, "s", "t", api.ErrThere},
		{0, "t", "s", api.ErrThere},
		{0, "d", "t", api.ErrThere},
		{1, "e", "e", api.ErrThere},
	} {
		refused(t, fmt.Sprintf("Name(%d, %q, %q)", c.dir, c.name, c.more), x, c.want, func() api.Errno { return x.Name(c.dir, c.name, c.more) })
	}
	wantErr(t, "Name", x.Name(1, "e", "s"), api.OK)
	wantErr(t, "Name", x.Name(0, "s", strings.Repeat("n", 32)), api.OK)
}

// P7.2, R3: Unname takes the name that is said, and never the only one, whichever that is.
func TestUnname(t *testing.T) {
	x := New()
	mustAdd(t, x, 0, "s", segment(7), 0)
	mustAdd(t, x, 0, "d", directory(0), 1)
	mustAdd(t, x, 0, "l", link(">"), 0)
	for _, name := range []string{"s", "d", "l"} {
		refused(t, "Unname of the only name", x, api.ErrBusy, func() api.Errno { return x.Unname(0, name) })
	}
	for _, name := range []string{"q", "", "a>b", "S", ">s"} {
		refused(t, "Unname of none", x, api.ErrNone, func() api.Errno { return x.Unname(0, name) })
	}
	refused(t, "Unname elsewhere", x, api.ErrNone, func() api.Errno { return x.Unname(1, "s") })
	wantErr(t, "Name", x.Name(0, "s", "t"), api.OK)
	wantErr(t, "Unname", x.Unname(0, "s"), api.OK)
	refused(t, "Unname again", x, api.ErrNone, func() api.Errno { return x.Unname(0, "s") })
	refused(t, "Unname of the name that is left", x, api.ErrBusy, func() api.Errno { return x.Unname(0, "t") })
	wantNames(t, x, 0, "d", "l", "t")
	wantUID(t, x, 7, 0, segment(7))
	// A Directory that has something may lose a name that is not its only one.
	mustAdd(t, x, 1, "e", link(">"), 0)
	wantErr(t, "Name", x.Name(0, "d", "dd"), api.OK)
	wantErr(t, "Unname", x.Unname(0, "d"), api.OK)
	wantLook(t, x, 0, "dd", directory(1))
	wantNames(t, x, 1, "e")
}

// P7.2: Delete by each of several names takes all of them, and answers what stood there.
func TestDelete(t *testing.T) {
	for _, by := range []string{"a", "m", "z"} {
		for _, b := range []Branch{segment(5), directory(1), link(">x")} {
			x := New()
			mustAdd(t, x, 0, "m", b, b.Dir)
			wantErr(t, "Name", x.Name(0, "m", "a"), api.OK)
			wantErr(t, "Name", x.Name(0, "m", "z"), api.OK)
			mustAdd(t, x, 0, "n", segment(6), 0)
			mustDelete(t, x, 0, by, b)
			wantNames(t, x, 0, "n")
			noUID(t, x, 5)
			for _, name := range []string{"a", "m", "z"} {
				noLook(t, x, 0, name)
				noDelete(t, x, 0, name, api.ErrNone)
			}
			noAdd(t, x, 1, "e", link(">"), api.ErrNone)
			wantUID(t, x, 6, 0, segment(6))
			mustAdd(t, x, 0, by, segment(5), 0)
			wantNames(t, x, 0, slices.Sorted(slices.Values([]string{by, "n"}))...)
		}
	}
}

// P7.2: Delete answers the access list and brackets as they were last.
func TestDeleteAnswersTheLast(t *testing.T) {
	x := New()
	mustAdd(t, x, 0, "s", segment(5), 0)
	wantErr(t, "Access", x.Access(0, "s", list("you")), api.OK)
	wantErr(t, "Ringed", x.Ringed(0, "s", others), api.OK)
	mustDelete(t, x, 0, "s", Branch{Kind: Segment, UID: 5, ACL: list("you"), B: others})
	mustAdd(t, x, 0, "s", segment(5), 0)
	wantLook(t, x, 0, "s", segment(5))
}

// P7.2, R3: a Directory goes only when it has nothing any more, of whatever kind that was, also by names that were given later.
func TestDeleteBusy(t *testing.T) {
	for _, b := range []Branch{segment(5), directory(2), link(">")} {
		x := New()
		mustAdd(t, x, 0, "d", directory(0), 1)
		wantErr(t, "Name", x.Name(0, "d", "dd"), api.OK)
		mustAdd(t, x, 1, "e", b, b.Dir)
		wantErr(t, "Name", x.Name(1, "e", "f"), api.OK)
		noDelete(t, x, 0, "d", api.ErrBusy)
		noDelete(t, x, 0, "dd", api.ErrBusy)
		wantErr(t, "Unname", x.Unname(1, "e"), api.OK)
		noDelete(t, x, 0, "d", api.ErrBusy)
		mustDelete(t, x, 1, "f", b)
		mustDelete(t, x, 0, "dd", directory(1))
		wantNames(t, x, 0)
		noDelete(t, x, 0, "d", api.ErrNone)
	}
}

// P7.2, R3: what is not there can't be deleted; the root has no name.
func TestDeleteNone(t *testing.T) {
	x := New()
	mustAdd(t, x, 0, "d", directory(0), 1)
	mustAdd(t, x, 1, "s", segment(3), 0)
	for _, name := range []string{"", "s", ">", ">d", "d>s", "D"} {
		noDelete(t, x, 0, name, api.ErrNone)
	}
	noDelete(t, x, 1, "d", api.ErrNone)
}

// P7.2: Access and Ringed by each name of a Segment are seen by all of them, and by its UID; no other segment changes.
func TestAccessAndRinged(t *testing.T) {
	x := New()
	mustAdd(t, x, 0, "d", directory(0), 1)
	mustAdd(t, x, 1, "s", full(Segment, 7), 0)
	wantErr(t, "Name", x.Name(1, "s", "a"), api.OK)
	wantErr(t, "Name", x.Name(1, "s", "z"), api.OK)
	mustAdd(t, x, 0, "s", segment(8), 0)
	want := Branch{Kind: Segment, UID: 7, Object: true, ACL: list("*", "me"), B: brackets}
	for i, by := range []string{"s", "a", "z"} {
		want.ACL = list("by", fmt.Sprintf("c%d", i))
		wantErr(t, "Access", x.Access(1, by, want.ACL), api.OK)
		for _, name := range []string{"s", "a", "z"} {
			wantLook(t, x, 1, name, want)
		}
		want.B = api.Brackets{R1: i, R2: i, R3: i, Gates: i}
		wantErr(t, "Ringed", x.Ringed(1, by, want.B), api.OK)
		for _, name := range []string{"s", "a", "z"} {
			wantLook(t, x, 1, name, want)
		}
		wantUID(t, x, 7, 1, want)
		wantUID(t, x, 8, 0, segment(8))
	}
	wantErr(t, "Unname", x.Unname(1, "s"), api.OK)
	wantUID(t, x, 7, 1, want)
}

// P7.2, R3: which lists and brackets a Segment may be given.
func TestAccessAndRingedWhich(t *testing.T) {
	x := New()
	mustAdd(t, x, 0, "s", segment(7), 0)
	for good, all := range lists() {
		for _, l := range all {
			if !good {
				refused(t, "Access", x, api.ErrArg, func() api.Errno { return x.Access(0, "s", l) })
				continue
			}
			wantErr(t, "Access", x.Access(0, "s", l), api.OK)
			wantLook(t, x, 0, "s", Branch{Kind: Segment, UID: 7, ACL: l, B: brackets})
		}
	}
	wantErr(t, "Access", x.Access(0, "s", list("*", "me")), api.OK)
	for good, all := range rings() {
		for _, b := range all {
			if !good {
				refused(t, "Ringed", x, api.ErrArg, func() api.Errno { return x.Ringed(0, "s", b) })
				continue
			}
			wantErr(t, "Ringed", x.Ringed(0, "s", b), api.OK)
			wantLook(t, x, 0, "s", Branch{Kind: Segment, UID: 7, ACL: list("*", "me"), B: b})
		}
	}
}

// P7.2, R3, R6: Access and Ringed of what is not there, then of what is no Segment, then of what may not be.
func TestAccessAndRingedRefused(t *testing.T) {
	x := New()
	mustAdd(t, x, 0, "d", directory(0), 1)
	mustAdd(t, x, 0, "l", link(">s"), 0)
	mustAdd(t, x, 0, "s", segment(7), 0)
	for _, c := range []struct {
		dir       int
		name      string
		good, bad api.Errno
	}{
		{0, "q", api.ErrNone, api.ErrNone},
		{0, "", api.ErrNone, api.ErrNone},
		{0, "a>b", api.ErrNone, api.ErrNone},
		{1, "s", api.ErrNone, api.ErrNone},
		{0, "d", api.ErrKind, api.ErrKind},
		{0, "l", api.ErrKind, api.ErrKind},
		{0, "s", api.OK, api.ErrArg},
	} {
		refused(t, "Access of what may not be", x, c.bad, func() api.Errno { return x.Access(c.dir, c.name, list("b", "a")) })
		refused(t, "Ringed of what may not be", x, c.bad, func() api.Errno { return x.Ringed(c.dir, c.name, api.Brackets{R1: 1}) })
		if c.good != api.OK {
			refused(t, "Access", x, c.good, func() api.Errno { return x.Access(c.dir, c.name, list("a")) })
			refused(t, "Ringed", x, c.good, func() api.Errno { return x.Ringed(c.dir, c.name, others) })
		}
	}
}

// P7.2: a UID that is there, was there, is there again elsewhere, never was, is below 1.
func TestByUIDAndHome(t *testing.T) {
	x := New()
	mustAdd(t, x, 0, "d", directory(0), 1)
	mustAdd(t, x, 1, "e", directory(0), 2)
	mustAdd(t, x, 0, "s", segment(7), 0)
	mustAdd(t, x, 2, "s", segment(8), 0)
	wantUID(t, x, 7, 0, segment(7))
	wantUID(t, x, 8, 2, segment(8))
	for _, uid := range []int{0, -1, -7, 1, 2, 6, 9, math.MinInt, math.MaxInt} {
		noUID(t, x, uid)
	}
	mustDelete(t, x, 2, "s", segment(8))
	noUID(t, x, 8)
	wantUID(t, x, 7, 0, segment(7))
	mustAdd(t, x, 1, "t", segment(8), 0)
	wantUID(t, x, 8, 1, segment(8))
}

// P7.2: names rise sign by sign, in whatever order they came, of one thing or of several; those of other directories are not among them.
func TestNamesRise(t *testing.T) {
	want := []string{"!", "*", "+", "10", "9", "A", "B", "Z", "_", "a", "aB", "aa", "ab", "b", "z", "~"}
	for start := range 20 {
		x, d := New(), dice(start)
		mustAdd(t, x, 0, "dir", directory(0), 1)
		left := slices.Clone(want)
		for n := 1; len(left) > 0; n++ {
			at := d.roll(len(left))
			name := left[at]
			left = slices.Delete(left, at, at+1)
			if e := x.Name(1, "b", name); e != api.OK {
				mustAdd(t, x, 1, name, segment(n), 0)
			}
			if x.Len(1) != n || !slices.IsSorted(x.Names(1)) {
				t.Errorf("start %d: %d names: %q, Len %d", start, n, x.Names(1), x.Len(1))
			}
		}
		wantNames(t, x, 1, want...)
		wantNames(t, x, 0, "dir")
	}
}

// R4: lists that are handed in are not changed, spare room too, and not kept.
func TestListsHandedIn(t *testing.T) {
	for _, n := range []int{0, 1, 2, 3, 5, 16} {
		room := rising(20)
		before := slices.Clone(room)
		x, b := New(), segment(7)
		b.ACL = room[:n]
		mustAdd(t, x, 0, "s", b, 0)
		mustAdd(t, x, 0, "t", segment(8), 0)
		wantErr(t, "Access", x.Access(0, "t", room[:n]), api.OK)
		x.Access(0, "t", room)
		if !slices.Equal(room, before) {
			t.Errorf("%d terms: a list that was handed in is %v", n, room)
		}
		for i := range room {
			room[i] = api.Term{User: "changed"}
		}
		for uid, name := range map[int]string{7: "s", 8: "t"} {
			want := Branch{Kind: Segment, UID: uid, ACL: before[:n], B: brackets}
			wantLook(t, x, 0, name, want)
			wantUID(t, x, uid, 0, want)
			mustDelete(t, x, 0, name, want)
		}
		for _, term := range room {
			if term.User != "changed" {
				t.Errorf("%d terms: written later: %v", n, room)
			}
		}
	}
}

// spoil overwrites a list that was answered, its spare room too.
func spoil(l []api.Term) {
	l = l[:cap(l)]
	for i := range l {
		l[i] = api.Term{User: "spoilt"}
	}
}

// R4: access lists that are answered are new memory, spare room too: spoilt, they change neither the tree nor other answers, and no later call changes them.
func TestListsAnswered(t *testing.T) {
	for n := range 17 {
		x, b := New(), segment(7)
		b.ACL = rising(n)
		want := rising(n)
		mustAdd(t, x, 0, "s", b, 0)
		first, _ := x.Look(0, "s")
		second, _ := x.Look(0, "s")
		third, _ := x.ByUID(7)
		spoil(first.ACL)
		if !slices.Equal(second.ACL, want) || !slices.Equal(third.ACL, want) || !slices.Equal(b.ACL, want) {
			t.Errorf("%d terms: Look's list shares memory", n)
		}
		spoil(third.ACL)
		if !slices.Equal(second.ACL, want) || !slices.Equal(b.ACL, want) {
			t.Errorf("%d terms: ByUID's list shares memory", n)
		}
		wantLook(t, x, 0, "s", Branch{Kind: Segment, UID: 7, ACL: want, B: brackets})
		wantUID(t, x, 7, 0, Branch{Kind: Segment, UID: 7, ACL: want, B: brackets})
		wantErr(t, "Access", x.Access(0, "s", list("you")), api.OK)
		if !slices.Equal(second.ACL, want) {
			t.Errorf("%d terms: an answer changed later: %v", n, second.ACL)
		}
	}
}

// R4: the list of what was deleted is new memory too.
func TestListDeleted(t *testing.T) {
	x, b := New(), segment(7)
	b.ACL = list("a", "b", "c")
	mustAdd(t, x, 0, "s", b, 0)
	look, _ := x.Look(0, "s")
	gone, e := x.Delete(0, "s")
	wantErr(t, "Delete", e, api.OK)
	spoil(gone.ACL)
	if want := list("a", "b", "c"); !slices.Equal(look.ACL, want) || !slices.Equal(b.ACL, want) {
		t.Errorf("Delete's list shares memory: %v, %v", look.ACL, b.ACL)
	}
	mustAdd(t, x, 0, "s", b, 0)
	wantLook(t, x, 0, "s", b)
}

// R4: Names answers new memory, spare room too.
func TestNamesAreNew(t *testing.T) {
	x := New()
	want := []string{"a", "b", "c", "d", "e"}
	for i, name := range want {
		mustAdd(t, x, 0, name, segment(i+1), 0)
		wantErr(t, "Name", x.Name(0, name, name+"+"), api.OK)
		wantErr(t, "Unname", x.Unname(0, name+"+"), api.OK)
	}
	first, second := x.Names(0), x.Names(0)
	first = first[:cap(first)]
	for i := range first {
		first[i] = "spoilt"
	}
	if !slices.Equal(second, want) {
		t.Errorf("two answers share memory: %q", second)
	}
	wantNames(t, x, 0, want...)
	for i, name := range want {
		wantLook(t, x, 0, name, segment(i+1))
	}
	mustDelete(t, x, 0, "c", segment(3))
	if !slices.Equal(second, want) {
		t.Errorf("an answer changed later: %q", second)
	}
}

// R5: two trees know nothing of each other.
func TestTreesApart(t *testing.T) {
	a, b := New(), New()
	mustAdd(t, a, 0, "d", directory(0), 1)
	mustAdd(t, a, 1, "s", segment(7), 0)
	wantNames(t, b, 0)
	noUID(t, b, 7)
	noAdd(t, b, 1, "s", segment(7), api.ErrNone)
	mustAdd(t, b, 0, "s", segment(7), 0)
	mustDelete(t, b, 0, "s", segment(7))
	wantUID(t, a, 7, 1, segment(7))
}

// R7: each method of a nil Tree, also at arguments that are refused otherwise.
func TestNil(t *testing.T) {
	var x *Tree
	for _, dir := range []int{0, 1, -1} {
		for _, name := range []string{"a", ""} {
			for _, b := range []Branch{segment(1), directory(0), link(">"), {}} {
				noAdd(t, x, dir, name, b, api.ErrArg)
			}
			noLook(t, x, dir, name)
			noDelete(t, x, dir, name, api.ErrArg)
			wantErr(t, "Name", x.Name(dir, name, "b"), api.ErrArg)
			wantErr(t, "Unname", x.Unname(dir, name), api.ErrArg)
			wantErr(t, "Access", x.Access(dir, name, nil), api.ErrArg)
			wantErr(t, "Ringed", x.Ringed(dir, name, api.Brackets{}), api.ErrArg)
		}
		noUID(t, x, dir)
		wantNames(t, x, dir)
	}
}

// R1: a Tree that New did not make panics nowhere: it has a root, and nothing else.
func TestZeroTree(t *testing.T) {
	for _, b := range []Branch{segment(4), directory(1), link(">")} {
		var x Tree
		noLook(t, &x, 0, "a")
		noDelete(t, &x, 0, "a", api.ErrNone)
		noAdd(t, &x, 1, "a", b, api.ErrNone)
		noUID(t, &x, 4)
		wantErr(t, "Name", x.Name(0, "a", "b"), api.ErrNone)
		wantErr(t, "Unname", x.Unname(0, "a"), api.ErrNone)
		wantErr(t, "Access", x.Access(0, "a", nil), api.ErrNone)
		wantErr(t, "Ringed", x.Ringed(0, "a", brackets), api.ErrNone)
		wantNames(t, &x, 0)
		mustAdd(t, &x, 0, "a", b, b.Dir)
		wantLook(t, &x, 0, "a", b)
		mustDelete(t, &x, 0, "a", b)
		wantNames(t, &x, 0)
	}
}
