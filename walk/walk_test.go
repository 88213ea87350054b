package walk

import (
	"fmt"
	"slices"
	"strings"
	"testing"

	"concentric/api"
	"concentric/tree"
)

var brackets = api.Brackets{R1: 1, R2: 2, R3: 3, Gates: 4}

func list(users ...string) []api.Term {
	var l []api.Term
	for _, user := range users {
		l = append(l, api.Term{User: user, F: api.Flags{R: true}})
	}
	return l
}

// segment has something in every field of its kind, so that one that is lost on the way is seen.
func segment(uid int) tree.Branch {
	return tree.Branch{Kind: tree.Segment, UID: uid, Object: true, ACL: list("*", "me"), B: brackets}
}

func numbered(number int) tree.Branch { return tree.Branch{Kind: tree.Directory, Dir: number} }

func link(path string) tree.Branch { return tree.Branch{Kind: tree.Link, Link: path} }

func same(a, b tree.Branch) bool {
	return a.Kind == b.Kind && a.UID == b.UID && a.Dir == b.Dir && a.Link == b.Link && a.Object == b.Object && a.B == b.B && slices.Equal(a.ACL, b.ACL)
}

func add(t *testing.T, x *tree.Tree, dir int, name string, b tree.Branch) int {
	t.Helper()
	n, e := x.Add(dir, name, b)
	if e != api.OK {
		t.Fatalf("Add(%d, %q, %v): %d", dir, name, b, e)
	}
	return n
}

// hill is a hierarchy of a few things of each kind:
//
//	>d       directory 1      >tod     link to >d           >toseg    link to >s
//	>d>e     directory 2      >toe     link to >d>e         >intoseg  link to >s>t
//	>d>e>s   segment 5        >tos     link to >toe>s       >nothing  link to >q
//	>d>up    link to >d       >root    link to >            >nowhere  link to >q>d
//	>s       segment 6        >self    link to itself       >ping, >pong: links to each other
func hill(t *testing.T) *tree.Tree {
	t.Helper()
	x := tree.New()
	add(t, x, 0, "d", numbered(0))
	add(t, x, 1, "e", numbered(0))
	add(t, x, 2, "s", segment(5))
	add(t, x, 0, "s", segment(6))
	add(t, x, 1, "up", link(">d"))
	for _, l := range [][2]string{
		{"tod", ">d"}, {"toe", ">d>e"}, {"tos", ">toe>s"}, {"root", ">"}, {"self", ">self"},
		{"toseg", ">s"}, {"intoseg", ">s>t"}, {"nothing", ">q"}, {"nowhere", ">q>d"}, {"ping", ">pong"}, {"pong", ">ping"},
	} {
		add(t, x, 0, l[0], link(l[1]))
	}
	return x
}

// told is all that a hierarchy answers of its first directories and segments.
func told(x *tree.Tree) string {
	var s strings.Builder
	for dir := -1; dir < 50; dir++ {
		fmt.Fprintln(&s, dir, x.Len(dir))
		for _, name := range x.Names(dir) {
			b, ok := x.Look(dir, name)
			fmt.Fprintf(&s, "%q %+v %v\n", name, b, ok)
		}
	}
	for uid := range 50 {
		b, ok := x.ByUID(uid)
		home, there := x.Home(uid)
		fmt.Fprintf(&s, "%d %+v %v %d %v\n", uid, b, ok, home, there)
	}
	return s.String()
}

// unchanged makes calls, after which the hierarchy must be as it was.
func unchanged(t *testing.T, x *tree.Tree, calls func()) {
	t.Helper()
	before := told(x)
	calls()
	if after := told(x); after != before {
		t.Errorf("the hierarchy was\n%s, and is\n%s", before, after)
	}
}

// The four below hold one call's answers against what they should be; with an error they must be nought.

func wantDir(t *testing.T, x *tree.Tree, path string, want int, err api.Errno) {
	t.Helper()
	if n, e := Dir(x, path); n != want || e != err {
		t.Errorf("Dir(%q) = %d, %d, want %d, %d", path, n, e, want, err)
	}
}

func wantTo(t *testing.T, x *tree.Tree, path string, dir int, name string, err api.Errno) {
	t.Helper()
	if n, s, e := To(x, path); n != dir || s != name || e != err {
		t.Errorf("To(%q) = %d, %q, %d, want %d, %q, %d", path, n, s, e, dir, name, err)
	}
}

func wantFind(t *testing.T, x *tree.Tree, path string, want tree.Branch, err api.Errno) {
	t.Helper()
	if b, e := Find(x, path); !same(b, want) || e != err {
		t.Errorf("Find(%q) = %+v, %d, want %+v, %d", path, b, e, want, err)
	}
}

func wantIn(t *testing.T, x *tree.Tree, dir int, name string, want tree.Branch, err api.Errno) {
	t.Helper()
	if b, e := In(x, dir, name); !same(b, want) || e != err {
		t.Errorf("In(%d, %q) = %+v, %d, want %+v, %d", dir, name, b, e, want, err)
	}
}

func noDir(t *testing.T, x *tree.Tree, path string, err api.Errno) {
	t.Helper()
	unchanged(t, x, func() { wantDir(t, x, path, 0, err) })
}

func noTo(t *testing.T, x *tree.Tree, path string, err api.Errno) {
	t.Helper()
	unchanged(t, x, func() { wantTo(t, x, path, 0, "", err) })
}

func noFind(t *testing.T, x *tree.Tree, path string, err api.Errno) {
	t.Helper()
	unchanged(t, x, func() { wantFind(t, x, path, tree.Branch{}, err) })
}

func noIn(t *testing.T, x *tree.Tree, dir int, name string, err api.Errno) {
	t.Helper()
	unchanged(t, x, func() { wantIn(t, x, dir, name, tree.Branch{}, err) })
}

// noWay is for what goes wrong ahead of the last part: all three answer the same error.
func noWay(t *testing.T, x *tree.Tree, path string, err api.Errno) {
	t.Helper()
	noDir(t, x, path, err)
	noTo(t, x, path, err)
	noFind(t, x, path, err)
}

// noPaths is texts that are no path, though the hill has what some of them seem to name.
func noPaths() []string {
	return []string{
		"", "d", "d>e", ">>", ">d>", ">>d", ">d>>e", ">d ", "> d", ">d\x7f", ">d\xff", ">d>\n",
		strings.Repeat(">d", api.MaxDepth+1),
		strings.Repeat(">root", api.MaxDepth+1),
		">" + strings.Repeat("x", api.MaxName+1),
		strings.Repeat(">"+strings.Repeat("x", 20), 8) + "x", // MaxPath + 1 signs
	}
}

// P8.1: the root's path is a directory, and has no last part.
func TestRoot(t *testing.T) {
	for _, x := range []*tree.Tree{tree.New(), {}, hill(t)} {
		wantDir(t, x, ">", 0, api.OK)
		wantFind(t, x, ">", numbered(0), api.OK)
		noTo(t, x, ">", api.ErrName)
	}
}

// P8.1: ErrName: it is no path.
func TestNoPath(t *testing.T) {
	for _, path := range noPaths() {
		noWay(t, hill(t), path, api.ErrName)
		noWay(t, tree.New(), path, api.ErrName)
	}
}

// P8.1: paths without Links.
func TestPlainPaths(t *testing.T) {
	x := hill(t)
	wantDir(t, x, ">d", 1, api.OK)
	wantDir(t, x, ">d>e", 2, api.OK)
	wantFind(t, x, ">d", numbered(1), api.OK)
	wantFind(t, x, ">d>e", numbered(2), api.OK)
	wantFind(t, x, ">d>e>s", segment(5), api.OK)
	wantFind(t, x, ">s", segment(6), api.OK)
	wantTo(t, x, ">d>e>s", 2, "s", api.OK)
	wantTo(t, x, ">d>e", 1, "e", api.OK)
	wantTo(t, x, ">d", 0, "d", api.OK)
}

// P8.1: all names of one thing lead to it.
func TestSecondName(t *testing.T) {
	x := hill(t)
	for _, e := range []api.Errno{x.Name(0, "d", "dir"), x.Name(0, "toe", "way"), x.Name(2, "s", "seg")} {
		if e != api.OK {
			t.Fatal(e)
		}
	}
	wantDir(t, x, ">dir>e", 2, api.OK)
	wantDir(t, x, ">way", 2, api.OK)
	wantFind(t, x, ">way>seg", segment(5), api.OK)
	wantTo(t, x, ">dir>up>x", 1, "x", api.OK)
	wantIn(t, x, 2, "seg", segment(5), api.OK)
}

// P8.1: ErrNone: a part that is not there, ahead of the last or the last; To does not ask for the last.
func TestNotThere(t *testing.T) {
	x := hill(t)
	for _, path := range []string{">q>a", ">q>d", ">d>q>s", ">d>e>q>s", ">root>q>a", ">D>e"} {
		noWay(t, x, path, api.ErrNone)
	}
	for _, path := range []string{">q", ">d>q", ">d>e>q", ">d>d", ">e", ">root>q"} {
		noDir(t, x, path, api.ErrNone)
		noFind(t, x, path, api.ErrNone)
	}
	noWay(t, tree.New(), ">d>e", api.ErrNone)
	noFind(t, tree.New(), ">d", api.ErrNone)
}

// P8.1: ErrKind: a Segment ahead of the last part, and as the last of Dir.
func TestSegmentOnTheWay(t *testing.T) {
	x := hill(t)
	for _, path := range []string{">s>a", ">s>s", ">d>e>s>t", ">d>e>s>t>u", ">toe>s>t", ">root>s>t"} {
		noWay(t, x, path, api.ErrKind)
	}
	for _, path := range []string{">s", ">d>e>s", ">toe>s", ">tos", ">toseg"} {
		noDir(t, x, path, api.ErrKind)
	}
}

// P8.1: Find's last part: a Directory, a Segment, a Link, which is followed.
func TestFindLast(t *testing.T) {
	x := hill(t)
	wantFind(t, x, ">d>e", numbered(2), api.OK)
	wantFind(t, x, ">d>e>s", segment(5), api.OK)
	wantFind(t, x, ">toe", numbered(2), api.OK)
	wantFind(t, x, ">tos", segment(5), api.OK)
	wantFind(t, x, ">toseg", segment(6), api.OK)
	wantFind(t, x, ">root", numbered(0), api.OK)
	wantFind(t, x, ">d>up", numbered(1), api.OK)
}

// P8.1: Dir's last part is asked as those ahead of it are.
func TestDirLast(t *testing.T) {
	x := hill(t)
	wantDir(t, x, ">toe", 2, api.OK)
	wantDir(t, x, ">tod", 1, api.OK)
	wantDir(t, x, ">root", 0, api.OK)
	wantDir(t, x, ">d>up", 1, api.OK)
	wantDir(t, x, ">d>up>e", 2, api.OK)
}

// P8.1: To's last part is answered whatever stands there, and is not followed.
func TestToLast(t *testing.T) {
	x := hill(t)
	wantTo(t, x, ">d", 0, "d", api.OK)
	wantTo(t, x, ">s", 0, "s", api.OK)
	wantTo(t, x, ">d>e>s", 2, "s", api.OK)
	wantTo(t, x, ">a", 0, "a", api.OK)
	wantTo(t, x, ">d>a", 1, "a", api.OK)
	wantTo(t, x, ">d>up", 1, "up", api.OK)
	for _, name := range []string{"toe", "tos", "toseg", "intoseg", "root", "self", "nothing", "nowhere", "ping"} {
		wantTo(t, x, ">"+name, 0, name, api.OK)
		wantTo(t, x, ">d>up>"+name, 1, name, api.OK)
	}
	longest := strings.Repeat("x", api.MaxName)
	wantTo(t, x, ">d>"+longest, 1, longest, api.OK)
	wantTo(t, tree.New(), ">a", 0, "a", api.OK)
}

// P8.1: Links ahead of the last part, to a directory, the root, another Link: the walk goes on from the root.
func TestLinksOnTheWay(t *testing.T) {
	x := hill(t)
	wantDir(t, x, ">tod>e", 2, api.OK)
	wantDir(t, x, ">root>d>e", 2, api.OK)
	wantDir(t, x, ">d>up>e", 2, api.OK)
	wantDir(t, x, ">d>up>up>up>e", 2, api.OK)
	wantFind(t, x, ">toe>s", segment(5), api.OK)
	wantFind(t, x, ">tod>e>s", segment(5), api.OK)
	wantFind(t, x, ">root>s", segment(6), api.OK)
	wantFind(t, x, ">root>root>toseg", segment(6), api.OK)
	wantFind(t, x, ">root>toe>s", segment(5), api.OK)
	wantTo(t, x, ">toe>a", 2, "a", api.OK)
	wantTo(t, x, ">root>a", 0, "a", api.OK)
	wantTo(t, x, ">root>d>up>a", 1, "a", api.OK)
	add(t, x, 0, "again", link(">toe"))
	wantFind(t, x, ">again>s", segment(5), api.OK)
	wantTo(t, x, ">again>s", 2, "s", api.OK)
	wantDir(t, x, ">again", 2, api.OK)
}

// P8.1: a Link's path begins at the root wherever the Link stands.
func TestLinkFromBelow(t *testing.T) {
	x := hill(t)
	add(t, x, 2, "l", link(">s"))
	add(t, x, 2, "back", link(">"))
	wantFind(t, x, ">d>e>l", segment(6), api.OK)
	wantFind(t, x, ">d>e>back>s", segment(6), api.OK)
	wantTo(t, x, ">d>e>back>s", 0, "s", api.OK)
	wantDir(t, x, ">d>e>back", 0, api.OK)
	wantIn(t, x, 2, "l", segment(6), api.OK)
	wantIn(t, x, 2, "back", numbered(0), api.OK)
}

// P8.1: Links that lead to what is not there, to and through a Segment, and to themselves.
func TestLinksThatFail(t *testing.T) {
	x := hill(t)
	for name, err := range map[string]api.Errno{
		"nothing": api.ErrNone, "nowhere": api.ErrNone, "intoseg": api.ErrKind, "self": api.ErrChase, "ping": api.ErrChase,
	} {
		noDir(t, x, ">"+name, err)
		noFind(t, x, ">"+name, err)
		noIn(t, x, 0, name, err)
		noWay(t, x, ">"+name+">a", err)
		noWay(t, x, ">root>"+name+">d", err)
	}
	for _, name := range []string{"toseg", "tos"} {
		noDir(t, x, ">"+name, api.ErrKind)
		noWay(t, x, ">"+name+">a", api.ErrKind)
	}
}

// P8.1: a walk may go deeper, and over more parts and signs, than one path can say.
func TestDeeperThanAPath(t *testing.T) {
	x := tree.New()
	name := strings.Repeat("n", 9)
	at := 0
	for range 40 {
		at = add(t, x, at, name, numbered(0))
	}
	down := func(n int) string { return strings.Repeat(">"+name, n) }
	add(t, x, 0, "far", link(down(16)))
	add(t, x, 16, "on", link(">far"+down(15)))
	wantDir(t, x, down(16), 16, api.OK)
	noWay(t, x, down(17), api.ErrName)
	wantDir(t, x, ">far"+down(15), 31, api.OK)
	wantFind(t, x, ">far"+down(15), numbered(31), api.OK)
	wantFind(t, x, ">far>on"+down(9), numbered(40), api.OK)
	wantTo(t, x, ">far>on"+down(9)+">x", 40, "x", api.OK)
	wantIn(t, x, 16, "on", numbered(31), api.OK)
	noFind(t, x, ">far>on"+down(10), api.ErrNone)
}

// P8.1: paths at their limits are walked.
func TestLongestPaths(t *testing.T) {
	x := tree.New()
	part := strings.Repeat("x", 20)
	at := 0
	for range 8 {
		at = add(t, x, at, part, numbered(0))
	}
	path := strings.Repeat(">"+part, 8)
	if len(path) != api.MaxPath {
		t.Fatal(len(path))
	}
	wantDir(t, x, path, 8, api.OK)
	wantTo(t, x, path, 7, part, api.OK)
	noWay(t, x, path+"x", api.ErrName)
}

// row adds the Links l1 to ln, of which each leads to the one before it, and l1 to a path: n Links in one walk from ln.
func row(t *testing.T, x *tree.Tree, n int, path string) {
	t.Helper()
	for i := range n {
		add(t, x, 0, fmt.Sprint("l", i+1), link(path))
		path = fmt.Sprint(">l", i+1)
	}
}

// P8.1: MaxChase Links in a row, and one more, as the last part and ahead of it.
func TestRowOfLinks(t *testing.T) {
	x := hill(t)
	row(t, x, 10, ">d>e")
	for n := 1; n <= api.MaxChase; n++ {
		name := fmt.Sprint("l", n)
		wantDir(t, x, ">"+name, 2, api.OK)
		wantFind(t, x, ">"+name, numbered(2), api.OK)
		wantFind(t, x, ">"+name+">s", segment(5), api.OK)
		wantTo(t, x, ">"+name+">s", 2, "s", api.OK)
		wantIn(t, x, 0, name, numbered(2), api.OK)
	}
	for n := api.MaxChase + 1; n <= 10; n++ {
		name := fmt.Sprint("l", n)
		noDir(t, x, ">"+name, api.ErrChase)
		noFind(t, x, ">"+name, api.ErrChase)
		noWay(t, x, ">"+name+">s", api.ErrChase)
		noIn(t, x, 0, name, api.ErrChase)
		wantTo(t, x, ">"+name, 0, name, api.OK)
	}
}

// P8.1: MaxChase Links side by side in one path, and one more; the last of To is none of them.
func TestLinksSideBySide(t *testing.T) {
	x := hill(t)
	ups := func(n int) string { return ">d" + strings.Repeat(">up", n) }
	wantDir(t, x, ups(8), 1, api.OK)
	wantFind(t, x, ups(8), numbered(1), api.OK)
	wantFind(t, x, ups(8)+">e>s", segment(5), api.OK)
	wantTo(t, x, ups(8)+">a", 1, "a", api.OK)
	wantTo(t, x, ups(9), 1, "up", api.OK)
	noDir(t, x, ups(9), api.ErrChase)
	noFind(t, x, ups(9), api.ErrChase)
	noTo(t, x, ups(10), api.ErrChase)
	noWay(t, x, ups(9)+">e", api.ErrChase)
}

// P8.1: Links ahead of the last part, those that they lead over, and the last one count together.
func TestLinksCountTogether(t *testing.T) {
	x := hill(t)
	row(t, x, 8, ">")
	for ahead := range 9 {
		for behind := range 10 {
			path, links := "", ahead+behind
			if ahead > 0 {
				path = fmt.Sprint(">l", ahead)
			}
			path += strings.Repeat(">root", behind)
			if links <= api.MaxChase {
				wantDir(t, x, path+">d", 1, api.OK)
				wantFind(t, x, path+">s", segment(6), api.OK)
				wantTo(t, x, path+">s", 0, "s", api.OK)
			} else {
				noWay(t, x, path+">d", api.ErrChase)
			}
			if links < api.MaxChase {
				wantDir(t, x, path+">tod", 1, api.OK)
				wantFind(t, x, path+">toseg", segment(6), api.OK)
			} else {
				noDir(t, x, path+">tod", api.ErrChase)
				noFind(t, x, path+">toseg", api.ErrChase)
			}
		}
	}
}

// P8.1: Links within the path of a Link count too, also for In, whose own Link is one.
func TestLinksOfLinksCount(t *testing.T) {
	x := hill(t)
	add(t, x, 0, "seven", link(strings.Repeat(">root", 7)+">s"))
	add(t, x, 0, "eight", link(strings.Repeat(">root", 8)+">s"))
	add(t, x, 1, "seven", link(strings.Repeat(">root", 7)))
	wantFind(t, x, ">seven", segment(6), api.OK)
	wantIn(t, x, 0, "seven", segment(6), api.OK)
	wantTo(t, x, ">eight", 0, "eight", api.OK)
	wantIn(t, x, 1, "seven", numbered(0), api.OK)
	wantDir(t, x, ">d>seven", 0, api.OK)
	wantTo(t, x, ">d>seven>s", 0, "s", api.OK)
	noFind(t, x, ">eight", api.ErrChase)
	noIn(t, x, 0, "eight", api.ErrChase)
	noFind(t, x, ">root>seven", api.ErrChase)
	noWay(t, x, ">d>up>seven>d", api.ErrChase)
}

// P8.1: a walk counts its own Links alone, none of those before it.
func TestCountBeginsAnew(t *testing.T) {
	x := hill(t)
	row(t, x, 9, ">d>e")
	for range 3 {
		wantDir(t, x, ">l8", 2, api.OK)
		wantTo(t, x, ">l8>a", 2, "a", api.OK)
		wantFind(t, x, ">l8>s", segment(5), api.OK)
		wantIn(t, x, 0, "l8", numbered(2), api.OK)
		noFind(t, x, ">l9", api.ErrChase)
	}
}

// P8.1: In: what stands there, followed.
func TestIn(t *testing.T) {
	x := hill(t)
	wantIn(t, x, 0, "d", numbered(1), api.OK)
	wantIn(t, x, 1, "e", numbered(2), api.OK)
	wantIn(t, x, 2, "s", segment(5), api.OK)
	wantIn(t, x, 0, "s", segment(6), api.OK)
	wantIn(t, x, 0, "toe", numbered(2), api.OK)
	wantIn(t, x, 0, "tos", segment(5), api.OK)
	wantIn(t, x, 0, "root", numbered(0), api.OK)
	wantIn(t, x, 1, "up", numbered(1), api.OK)
}

// P8.1: In: ErrNone: no such name there, one that may not be too, or no such directory.
func TestInNotThere(t *testing.T) {
	x := hill(t)
	for _, name := range []string{"q", "", ">", ">d", "d>e", "d ", "\xff", "D", "e", strings.Repeat("x", api.MaxName+1)} {
		noIn(t, x, 0, name, api.ErrNone)
	}
	noIn(t, x, 1, "d", api.ErrNone)
	for _, dir := range []int{-1, 3, 99, -1 << 63, 1<<63 - 1} {
		noIn(t, x, dir, "d", api.ErrNone)
		noIn(t, x, dir, "", api.ErrNone)
	}
	noIn(t, tree.New(), 0, "d", api.ErrNone)
	noIn(t, new(tree.Tree), 1, "d", api.ErrNone)
}

// P8.1: what is deleted is not walked any more, and a directory that is gone has nothing.
func TestGone(t *testing.T) {
	x := hill(t)
	for _, at := range []struct {
		dir  int
		name string
	}{{2, "s"}, {1, "e"}} {
		if _, e := x.Delete(at.dir, at.name); e != api.OK {
			t.Fatal(e)
		}
	}
	noIn(t, x, 2, "s", api.ErrNone)
	noIn(t, x, 1, "e", api.ErrNone)
	noIn(t, x, 0, "toe", api.ErrNone)
	noFind(t, x, ">d>e", api.ErrNone)
	noDir(t, x, ">toe", api.ErrNone)
	noWay(t, x, ">toe>s", api.ErrNone)
	add(t, x, 1, "e", segment(7))
	wantFind(t, x, ">toe", segment(7), api.OK)
	wantIn(t, x, 0, "toe", segment(7), api.OK)
	noWay(t, x, ">toe>s", api.ErrKind)
	noIn(t, x, 0, "tos", api.ErrKind)
}

// R6: no path is told ahead of what its parts are; of the parts, the first that fails is told.
func TestOrder(t *testing.T) {
	x := hill(t)
	for _, path := range []string{">q>", ">s>>", ">self>", ">q>s>>a", "self", ">self>" + strings.Repeat("x", 33)} {
		noWay(t, x, path, api.ErrName)
	}
	for path, err := range map[string]api.Errno{
		">q>s>a": api.ErrNone, ">q>self>a": api.ErrNone, ">s>q>a": api.ErrKind, ">s>self>a": api.ErrKind,
		">self>q>a": api.ErrChase, ">self>s>a": api.ErrChase, ">nothing>s>a": api.ErrNone, ">intoseg>q>a": api.ErrKind,
		">toseg>q": api.ErrKind, ">s>s": api.ErrKind, ">nowhere>self": api.ErrNone, ">intoseg>self": api.ErrKind,
	} {
		noWay(t, x, path, err)
	}
}

// R6: where the Links are too many, what the one too many leads to is not asked.
func TestOrderOfChase(t *testing.T) {
	for path, err := range map[string]api.Errno{">q": api.ErrNone, ">q>d": api.ErrNone, ">s>t": api.ErrKind} {
		x := hill(t)
		row(t, x, 9, path)
		noDir(t, x, ">l8", err)
		noFind(t, x, ">l8", err)
		noWay(t, x, ">l8>a", err)
		noIn(t, x, 0, "l8", err)
		noDir(t, x, ">l9", api.ErrChase)
		noFind(t, x, ">l9", api.ErrChase)
		noWay(t, x, ">l9>a", api.ErrChase)
		noIn(t, x, 0, "l9", api.ErrChase)
	}
	x := hill(t)
	row(t, x, 9, ">s")
	noDir(t, x, ">l8", api.ErrKind)
	noWay(t, x, ">l8>a", api.ErrKind)
	noDir(t, x, ">l9", api.ErrChase)
	noWay(t, x, ">l9>a", api.ErrChase)
	noFind(t, x, ">l8>a", api.ErrKind)
	noFind(t, x, strings.Repeat(">root", 8)+">q", api.ErrNone)
	noFind(t, x, strings.Repeat(">root", 9)+">q", api.ErrChase)
}

// R3: walks that come to an end change nothing either.
func TestWalksChangeNothing(t *testing.T) {
	x := hill(t)
	row(t, x, 8, ">d>e")
	unchanged(t, x, func() {
		for _, path := range []string{">", ">d>e", ">toe", ">tos", ">l8", ">l8>s", ">d>up>up>e>s"} {
			Dir(x, path)
			To(x, path)
			Find(x, path)
			In(x, 0, strings.TrimPrefix(path, ">"))
		}
	})
}

// R4: a list that is answered is the asker's own, spare room too.
func TestListsAreNew(t *testing.T) {
	x := hill(t)
	asks := []func() (tree.Branch, api.Errno){
		func() (tree.Branch, api.Errno) { return Find(x, ">d>e>s") },
		func() (tree.Branch, api.Errno) { return Find(x, ">tos") },
		func() (tree.Branch, api.Errno) { return In(x, 2, "s") },
		func() (tree.Branch, api.Errno) { return In(x, 0, "tos") },
	}
	for i, ask := range asks {
		first, e := ask()
		second, f := ask()
		if e != api.OK || f != api.OK {
			t.Fatal(i, e, f)
		}
		unchanged(t, x, func() { clear(first.ACL[:cap(first.ACL)]) })
		if !same(second, segment(5)) {
			t.Errorf("ask %d: a change of one answer changed the other: %+v", i, second)
		}
		clear(second.ACL[:cap(second.ACL)])
		if third, e := ask(); !same(third, segment(5)) || e != api.OK {
			t.Errorf("ask %d: a change of an answer changed later ones: %+v, %d", i, third, e)
		}
	}
}

// R7: a nil Tree: ErrArg, whatever else is asked.
func TestNilTree(t *testing.T) {
	for _, path := range append(noPaths(), ">", ">d", ">d>e") {
		wantDir(t, nil, path, 0, api.ErrArg)
		wantTo(t, nil, path, 0, "", api.ErrArg)
		wantFind(t, nil, path, tree.Branch{}, api.ErrArg)
		for _, dir := range []int{-1, 0, 1} {
			wantIn(t, nil, dir, path, tree.Branch{}, api.ErrArg)
		}
	}
}
