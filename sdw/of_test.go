package sdw

import (
	"fmt"
	"math"
	"strings"
	"testing"

	"concentric/api"
	"concentric/store"
	"concentric/tree"
)

var all = api.Flags{R: true, W: true, E: true}

// extremes are numbers that no call may stumble over.
var extremes = []int{math.MinInt, math.MinInt + 1, -1 << 32, 1 << 32, math.MaxInt - 1, math.MaxInt}

func brackets(r1, r2, r3, gates int) api.Brackets {
	return api.Brackets{R1: r1, R2: r2, R3: r3, Gates: gates}
}

func term(user string, f api.Flags) api.Term { return api.Term{User: user, F: f} }

// flagsOf is one of all eight sets of flags.
func flagsOf(n int) api.Flags { return api.Flags{R: n&1 != 0, W: n&2 != 0, E: n&4 != 0} }

func segment(uid int, b api.Brackets, l ...api.Term) tree.Branch {
	return tree.Branch{Kind: tree.Segment, UID: uid, ACL: l, B: b}
}

func object(uid int, b api.Brackets, l ...api.Term) tree.Branch {
	o := segment(uid, b, l...)
	o.Object = true
	return o
}

func add(t *testing.T, x *tree.Tree, dir int, name string, b tree.Branch) {
	t.Helper()
	if _, e := x.Add(dir, name, b); e != api.OK {
		t.Fatalf("Add(%d, %q, %v): %d", dir, name, b, e)
	}
}

// fine stops a test where a call that it needs is refused.
func fine(t *testing.T, e api.Errno) {
	t.Helper()
	if e != api.OK {
		t.Fatalf("refused: %d", e)
	}
}

// held is a store with segments of these sizes, from number 1 on.
func held(t *testing.T, sizes ...int) *store.Store {
	t.Helper()
	s := store.New(8 * api.MaxSize)
	for _, size := range sizes {
		uid, e := s.Make(size)
		fine(t, e)
		if size > 0 {
			fine(t, s.Write(uid, size-1, api.Word(uid)))
		}
	}
	return s
}

// one is a tree and a store of one segment: number 1, named s.
func one(t *testing.T, size int, b tree.Branch) (*tree.Tree, *store.Store) {
	t.Helper()
	x := tree.New()
	add(t, x, 0, "s", b)
	return x, held(t, size)
}

// few is a tree and a store that have more than each other:
//
//	1  >s    of 4 words         3  in the store alone
//	2  >d>o  of 3, an object    4  >e of no words, for nobody
//	9  >t    in the tree alone  5  in neither
func few(t *testing.T) (*tree.Tree, *store.Store) {
	t.Helper()
	x := tree.New()
	add(t, x, 0, "d", tree.Branch{Kind: tree.Directory})
	add(t, x, 0, "s", segment(1, brackets(1, 3, 5, 2), term("*", flagsOf(1)), term("bob", all)))
	add(t, x, 1, "o", object(2, brackets(0, 4, 7, 1), term("*", all), term("jim", flagsOf(3))))
	add(t, x, 0, "e", segment(4, api.Brackets{}))
	add(t, x, 1, "t", segment(9, brackets(4, 4, 4, 0), term("*", all)))
	add(t, x, 0, "l", tree.Branch{Kind: tree.Link, Link: ">s"})
	return x, held(t, 4, 3, 5, 0)
}

// told is all that a hierarchy and a store answer of their first directories and segments.
func told(x *tree.Tree, s *store.Store) string {
	var b strings.Builder
	for dir := -1; dir < 10; dir++ {
		fmt.Fprintln(&b, dir, x.Len(dir))
		for _, name := range x.Names(dir) {
			branch, ok := x.Look(dir, name)
			fmt.Fprintf(&b, "%q %+v %v\n", name, branch, ok)
		}
	}
	for uid := -1; uid < 20; uid++ {
		branch, ok := x.ByUID(uid)
		home, there := x.Home(uid)
		words, e := s.Words(uid)
		fmt.Fprintf(&b, "%d %+v %v %d %v %v %d\n", uid, branch, ok, home, there, words, e)
	}
	fmt.Fprintln(&b, s.Used())
	return b.String()
}

// unchanged makes calls, after which tree and store must be as they were.
func unchanged(t *testing.T, x *tree.Tree, s *store.Store, calls func()) {
	t.Helper()
	before := told(x, s)
	calls()
	if after := told(x, s); after != before {
		t.Errorf("tree and store were\n%s, and are\n%s", before, after)
	}
}

func wantOf(t *testing.T, x *tree.Tree, s *store.Store, uid int, user string, want SDW) {
	t.Helper()
	unchanged(t, x, s, func() {
		if got, e := Of(x, s, uid, user); got != want || e != api.OK {
			t.Errorf("Of(%d, %q) = %+v, %d, want %+v", uid, user, got, e, want)
		}
	})
}

// noOf wants an error, and an SDW that is all nought beside it.
func noOf(t *testing.T, x *tree.Tree, s *store.Store, uid int, user string, want api.Errno) {
	t.Helper()
	unchanged(t, x, s, func() {
		if got, e := Of(x, s, uid, user); got != (SDW{}) || e != want {
			t.Errorf("Of(%d, %q) = %+v, %d, want error %d", uid, user, got, e, want)
		}
	})
}

// P11.1: what both have is answered, field by field, whichever directory it stands in.
func TestOf(t *testing.T) {
	x, s := few(t)
	wantOf(t, x, s, 1, "bob", SDW{UID: 1, Size: 4, F: all, B: brackets(1, 3, 5, 2)})
	wantOf(t, x, s, 1, "jim", SDW{UID: 1, Size: 4, F: flagsOf(1), B: brackets(1, 3, 5, 2)})
	wantOf(t, x, s, 2, "bob", SDW{UID: 2, Size: 3, F: flagsOf(5), B: brackets(0, 4, 7, 1)})
	wantOf(t, x, s, 2, "jim", SDW{UID: 2, Size: 3, F: flagsOf(1), B: brackets(0, 4, 7, 1)})
	wantOf(t, x, s, 4, "bob", SDW{UID: 4})
}

// P11.1, at the limits: all terms, all words, the highest ring, all words gates.
func TestOfGreat(t *testing.T) {
	var l []api.Term
	for n := range api.MaxTerms {
		l = append(l, term(strings.Repeat(string(rune('a'+n)), api.MaxUsers), flagsOf(n/2)))
	}
	x, s := one(t, api.MaxSize, segment(1, brackets(7, 7, 7, api.MaxSize), l...))
	for n, each := range l {
		wantOf(t, x, s, 1, each.User, SDW{UID: 1, Size: api.MaxSize, F: flagsOf(n / 2), B: brackets(7, 7, 7, api.MaxSize)})
	}
	wantOf(t, x, s, 1, l[15].User[1:], SDW{UID: 1, Size: api.MaxSize, B: brackets(7, 7, 7, api.MaxSize)})
}

// P11.1, R2, R3: ErrNone of what the tree alone has, the store alone, neither; of 0, below it, and of great numbers.
func TestOfNone(t *testing.T) {
	x, s := few(t)
	for _, uid := range append([]int{9, 3, 5, 10, 0, -1, -2}, extremes...) {
		for _, user := range []string{"bob", "jim", "*", ""} {
			noOf(t, x, s, uid, user, api.ErrNone)
		}
	}
	for _, uid := range []int{0, 1, 2} {
		noOf(t, tree.New(), s, uid, "bob", api.ErrNone)
		noOf(t, x, store.New(100), uid, "bob", api.ErrNone)
		noOf(t, tree.New(), store.New(100), uid, "bob", api.ErrNone)
	}
}

// P11.1: the number is the segment's, not its place: the directory 1 and the Link are no segments.
func TestOfNoSegment(t *testing.T) {
	x := tree.New()
	add(t, x, 0, "d", tree.Branch{Kind: tree.Directory, UID: 1, ACL: []api.Term{term("*", all)}})
	add(t, x, 0, "l", tree.Branch{Kind: tree.Link, UID: 2, Link: ">d"})
	s := held(t, 4, 4)
	noOf(t, x, s, 1, "bob", api.ErrNone)
	noOf(t, x, s, 2, "bob", api.ErrNone)
}

// P11.1: a user's own term, else that of any, else nothing: the flags are not added up.
func TestOfUsers(t *testing.T) {
	r, w, e, none := flagsOf(1), flagsOf(2), flagsOf(4), api.Flags{}
	for _, c := range []struct {
		list []api.Term
		user string
		want api.Flags
	}{
		{[]api.Term{term("bob", w), term("jim", e)}, "bob", w},
		{[]api.Term{term("bob", w), term("jim", e)}, "jim", e},
		{[]api.Term{term("bob", w), term("jim", e)}, "kim", none},
		{[]api.Term{term("bob", w), term("jim", e)}, "*", none},
		{[]api.Term{term("bob", w), term("jim", e)}, "bo", none},
		{[]api.Term{term("bob", w), term("jim", e)}, "bobb", none},
		{[]api.Term{term("bob", w), term("jim", e)}, "Bob", none},
		{[]api.Term{term("*", r), term("bob", w)}, "bob", w},
		{[]api.Term{term("*", r), term("bob", w)}, "jim", r},
		{[]api.Term{term("*", r), term("bob", w)}, "*", r},
		{[]api.Term{term("*", all), term("bob", none)}, "bob", none},
		{[]api.Term{term("*", all), term("bob", none)}, "jim", all},
		{[]api.Term{term("!", e), term("*", r)}, "!", e},
		{[]api.Term{term("!", e), term("*", r)}, "\"", r},
		{[]api.Term{term("*", none)}, "bob", none},
		{nil, "bob", none},
		{nil, "*", none},
		// Texts that are no users are named by no term.
		{[]api.Term{term("*", r), term("bob", w)}, "", r},
		{[]api.Term{term("*", r), term("bob", w)}, "b b", r},
		{[]api.Term{term("*", r), term("bob", w)}, strings.Repeat("u", api.MaxUsers+1), r},
		{[]api.Term{term("bob", w)}, "", none},
		{[]api.Term{term("bob", w)}, "\xff", none},
	} {
		x, s := one(t, 2, segment(1, brackets(1, 2, 3, 4), c.list...))
		wantOf(t, x, s, 1, c.user, SDW{UID: 1, Size: 2, F: c.want, B: brackets(1, 2, 3, 4)})
	}
}

// P11.1 and its example: of an object never W, whichever term tells the flags; of another segment each flag as it stands.
func TestOfObject(t *testing.T) {
	b := brackets(4, 4, 5, 1)
	for n := range 8 {
		f, other := flagsOf(n), flagsOf(7-n)
		less := f
		less.W = false
		x, s := one(t, 3, object(1, b, term("*", f), term("bob", other)))
		wantOf(t, x, s, 1, "jim", SDW{UID: 1, Size: 3, F: less, B: b})
		x, s = one(t, 3, object(1, b, term("*", other), term("bob", f)))
		wantOf(t, x, s, 1, "bob", SDW{UID: 1, Size: 3, F: less, B: b})
		x, s = one(t, 3, segment(1, b, term("*", f), term("bob", other)))
		wantOf(t, x, s, 1, "jim", SDW{UID: 1, Size: 3, F: f, B: b})
		wantOf(t, x, s, 1, "bob", SDW{UID: 1, Size: 3, F: other, B: b})
	}
	x, s := one(t, 3, object(1, b))
	wantOf(t, x, s, 1, "bob", SDW{UID: 1, Size: 3, B: b})
}

// P11.1: an object's own words are not asked: what is in them neither makes it an object nor unmakes it.
func TestOfObjectByBranch(t *testing.T) {
	x, s := few(t)
	for off := range 3 {
		fine(t, s.Write(2, off, api.Mask))
		fine(t, s.Write(1, off, 0))
	}
	wantOf(t, x, s, 1, "bob", SDW{UID: 1, Size: 4, F: all, B: brackets(1, 3, 5, 2)})
	wantOf(t, x, s, 2, "bob", SDW{UID: 2, Size: 3, F: flagsOf(5), B: brackets(0, 4, 7, 1)})
}

// P11.1: Size is the one of now, and no other's.
func TestOfSizes(t *testing.T) {
	x, s := few(t)
	for _, size := range []int{9, 2, 0, 1, api.MaxSize, api.MaxSize - 1, 0, 4} {
		fine(t, s.Resize(1, size))
		wantOf(t, x, s, 1, "bob", SDW{UID: 1, Size: size, F: all, B: brackets(1, 3, 5, 2)})
		wantOf(t, x, s, 2, "bob", SDW{UID: 2, Size: 3, F: flagsOf(5), B: brackets(0, 4, 7, 1)})
	}
	// A Resize that is refused leaves the size that was.
	if e := s.Resize(1, api.MaxSize+1); e != api.ErrArg {
		t.Fatalf("Resize: %d", e)
	}
	wantOf(t, x, s, 1, "bob", SDW{UID: 1, Size: 4, F: all, B: brackets(1, 3, 5, 2)})
}

// P11.1: flags and brackets are those of now, by whichever name they were changed.
func TestOfChanges(t *testing.T) {
	x, s := few(t)
	fine(t, x.Name(0, "s", "other"))
	fine(t, x.Access(0, "other", []api.Term{term("bob", flagsOf(4))}))
	wantOf(t, x, s, 1, "bob", SDW{UID: 1, Size: 4, F: flagsOf(4), B: brackets(1, 3, 5, 2)})
	wantOf(t, x, s, 1, "jim", SDW{UID: 1, Size: 4, B: brackets(1, 3, 5, 2)})
	fine(t, x.Ringed(0, "s", brackets(0, 0, 7, 9)))
	wantOf(t, x, s, 1, "bob", SDW{UID: 1, Size: 4, F: flagsOf(4), B: brackets(0, 0, 7, 9)})
	fine(t, x.Unname(0, "s"))
	fine(t, x.Access(0, "other", nil))
	wantOf(t, x, s, 1, "bob", SDW{UID: 1, Size: 4, B: brackets(0, 0, 7, 9)})
	fine(t, x.Access(0, "other", []api.Term{term("*", all)}))
	wantOf(t, x, s, 1, "bob", SDW{UID: 1, Size: 4, F: all, B: brackets(0, 0, 7, 9)})
	// Changes that are refused, and changes of another segment, are not seen.
	if e := x.Ringed(0, "other", brackets(2, 1, 7, 9)); e != api.ErrArg {
		t.Fatalf("Ringed: %d", e)
	}
	if e := x.Access(0, "other", []api.Term{term("", all)}); e != api.ErrArg {
		t.Fatalf("Access: %d", e)
	}
	fine(t, x.Ringed(1, "o", brackets(6, 6, 6, 6)))
	fine(t, x.Access(1, "o", nil))
	wantOf(t, x, s, 1, "bob", SDW{UID: 1, Size: 4, F: all, B: brackets(0, 0, 7, 9)})
	wantOf(t, x, s, 2, "bob", SDW{UID: 2, Size: 3, B: brackets(6, 6, 6, 6)})
}

// P11.1: dropped in the store or deleted in the tree, a segment is none; what stands elsewhere by its number is one again.
func TestOfGone(t *testing.T) {
	x, s := few(t)
	fine(t, s.Drop(1))
	noOf(t, x, s, 1, "bob", api.ErrNone)
	gone, e := x.Delete(1, "o")
	fine(t, e)
	noOf(t, x, s, 2, "bob", api.ErrNone)
	_, e = x.Delete(0, "s")
	fine(t, e)
	noOf(t, x, s, 1, "bob", api.ErrNone)
	gone.Object = false
	add(t, x, 0, "s", gone)
	wantOf(t, x, s, 2, "bob", SDW{UID: 2, Size: 3, F: all, B: brackets(0, 4, 7, 1)})
	// A segment made behind the drop has another number, so the first is none still.
	if uid, e := s.Make(4); uid != 5 || e != api.OK {
		t.Fatalf("Make = %d, %d", uid, e)
	}
	noOf(t, x, s, 1, "bob", api.ErrNone)
	noOf(t, x, s, 5, "bob", api.ErrNone)
	add(t, x, 0, "new", segment(5, brackets(1, 1, 1, 1), term("*", all)))
	wantOf(t, x, s, 5, "bob", SDW{UID: 5, Size: 4, F: all, B: brackets(1, 1, 1, 1)})
}

// R7: of a nil tree or a nil store ErrArg, whatever the other has; those that New did not make have nothing.
func TestOfNil(t *testing.T) {
	x, s := few(t)
	for _, uid := range append([]int{1, 2, 3, 4, 5, 9, 0, -1}, extremes...) {
		noOf(t, nil, s, uid, "bob", api.ErrArg)
		noOf(t, x, nil, uid, "bob", api.ErrArg)
		noOf(t, nil, nil, uid, "", api.ErrArg)
		noOf(t, &tree.Tree{}, s, uid, "bob", api.ErrNone)
		noOf(t, x, &store.Store{}, uid, "bob", api.ErrNone)
		noOf(t, &tree.Tree{}, nil, uid, "bob", api.ErrArg)
		noOf(t, nil, &store.Store{}, uid, "bob", api.ErrArg)
	}
}

// Ways, R5: each answer is of its time: one that was given stays as it was, and asks as it did, whatever changes behind it.
func TestOfStays(t *testing.T) {
	x, s := few(t)
	was, e := Of(x, s, 1, "bob")
	fine(t, e)
	kept := was
	fine(t, x.Access(0, "s", nil))
	fine(t, x.Ringed(0, "s", brackets(7, 7, 7, 0)))
	fine(t, s.Resize(1, 0))
	now, e := Of(x, s, 1, "bob")
	fine(t, e)
	if want := (SDW{UID: 1, B: brackets(7, 7, 7, 0)}); now != want {
		t.Errorf("now %+v, want %+v", now, want)
	}
	fine(t, s.Drop(1))
	_, e = x.Delete(0, "s")
	fine(t, e)
	if was != kept || was != (SDW{UID: 1, Size: 4, F: all, B: brackets(1, 3, 5, 2)}) {
		t.Errorf("was %+v, is %+v", kept, was)
	}
	if in, e := was.Call(4, 1); in != 3 || e != api.OK || was.Read(3, 3) != api.OK || was.Write(1, 3) != api.OK || was.Fetch(1, 3) != api.OK {
		t.Errorf("Call = %d, %d, Read %d, Write %d, Fetch %d", in, e, was.Read(3, 3), was.Write(1, 3), was.Fetch(1, 3))
	}
	if now.Read(7, 0) != api.ErrMode {
		t.Errorf("Read = %d", now.Read(7, 0))
	}
}

// R4: what is answered is the caller's own: nothing done to it is seen by one who asks later.
func TestOfOwn(t *testing.T) {
	x, s := few(t)
	unchanged(t, x, s, func() {
		d, e := Of(x, s, 1, "bob")
		fine(t, e)
		d.Size, d.F, d.B = 0, api.Flags{}, api.Brackets{}
	})
	wantOf(t, x, s, 1, "bob", SDW{UID: 1, Size: 4, F: all, B: brackets(1, 3, 5, 2)})
}
