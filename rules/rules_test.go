package rules

import (
	"fmt"
	"math"
	"slices"
	"strings"
	"testing"

	"concentric/api"
	"concentric/tree"
)

var (
	referencing = api.Rule{Kind: api.Referencing}
	working     = api.Rule{Kind: api.Working}
)

// longest has as many signs as a name may have.
var longest = strings.Repeat("n", api.MaxName)

// noNames are texts that no name is.
var noNames = []string{"", ">", "a>", ">a", "a>b", ">d>seg", longest + "n", strings.Repeat(longest, 100), " ", "a b", "seg ", "a\n", "\x00", "\x7f", "\x80", "\xff", "ä"}

// noDirs are numbers that no directory of the hill has.
var noDirs = []int{-1, -2, 99, -1 << 32, 1 << 32, math.MinInt, math.MinInt + 1, math.MaxInt - 1, math.MaxInt}

// longPath has MaxPath signs where its last part has 20.
func longPath(last int) string {
	return strings.Repeat(">"+strings.Repeat("x", 20), 7) + ">" + strings.Repeat("x", last)
}

// noPaths are texts that are no path.
func noPaths() []string {
	return []string{
		"", "d", "d>e", " >d", ">>", ">d>", ">>d", ">d>>e", ">d ", "> d", ">d\x7f", ">d\xff", ">d>\n", ">ä",
		strings.Repeat(">d", api.MaxDepth+1),
		">" + longest + "n",
		">d>" + longest + "n",
		longPath(21),
	}
}

func listed(path string) api.Rule { return api.Rule{Kind: api.Listed, Path: path} }

func segment(uid int) tree.Branch {
	return tree.Branch{
		Kind: tree.Segment, UID: uid, Object: uid%2 == 0,
		ACL: []api.Term{{User: "*", F: api.Flags{R: true}}, {User: fmt.Sprint("u", uid), F: api.Flags{R: true, E: true}}},
		B:   api.Brackets{R1: 1, R2: 2 + uid%2, R3: 5, Gates: uid},
	}
}

func directoryBranch() tree.Branch { return tree.Branch{Kind: tree.Directory} }

func link(path string) tree.Branch { return tree.Branch{Kind: tree.Link, Link: path} }

func same(a, b tree.Branch) bool {
	return a.Kind == b.Kind && a.UID == b.UID && a.Dir == b.Dir && a.Link == b.Link && a.Object == b.Object && a.B == b.B && slices.Equal(a.ACL, b.ACL)
}

func add(t *testing.T, x *tree.Tree, dir int, name string, b tree.Branch) int {
	t.Helper()
	n, e := x.Add(dir, name, b)
	if e != api.OK {
		t.Fatalf("Add(%d, %q, %v): %d", dir, name, b, e)
	}
	return n
}

// fine stops a test where a call that it needs is refused.
func fine(t *testing.T, e api.Errno) {
	t.Helper()
	if e != api.OK {
		t.Fatalf("refused: %d", e)
	}
}

// placed is a directory of the hill, with its path, and a number that tells its segments from others'.
type placed struct {
	dir  int
	path string
	base int
}

// under is the path of what has that name there.
func (p placed) under(name string) string { return strings.TrimSuffix(p.path, ">") + ">" + name }

// places are the directories of the hill that have all there is to find.
var places = []placed{{0, ">", 10}, {1, ">d", 20}, {2, ">d>sub", 30}}

// last is the directory of the hill where each name that is asked is a Segment.
var last = placed{3, ">last", 100}

// found are the names in each of the places that lead to a Segment, and which.
var found = map[string]int{
	"seg": 1, "many": 2, "more": 2, longest: 3, "!": 4,
	"toseg": 1, "tomore": 2, "tolink": 1, "row8": 1,
}

// lost are the names in each of the places that lead to none.
var lost = []string{
	"dir", "todir", "toroot", "tolinkdir", "tonone", "tolost", "intoseg", "self", "ping", "pong", "row9", "row10", "nothing", "Seg",
}

// hill has the places, and Links and Segments in its root by which rules may come to them or not.
func hill(t *testing.T) *tree.Tree {
	t.Helper()
	x := tree.New()
	add(t, x, 0, "d", directoryBranch())
	add(t, x, 1, "sub", directoryBranch())
	add(t, x, 0, "last", directoryBranch())
	add(t, x, 0, "empty", directoryBranch())
	for _, p := range places {
		furnish(t, x, p)
	}
	for n, name := range lost {
		add(t, x, last.dir, name, segment(last.base+n))
	}
	for _, l := range [][2]string{
		{"l0", ">"}, {"l1", ">d"}, {"l2", ">l1>sub"}, {"l3", ">last"}, {"wrong", ">q>d"}, {"round", ">round"}, {"eight", strings.Repeat(">l0", 7) + ">d"}, {"nine", strings.Repeat(">l0", 8) + ">d"},
	} {
		add(t, x, 0, l[0], link(l[1]))
	}
	return x
}

// furnish puts into a directory all that a name may be.
func furnish(t *testing.T, x *tree.Tree, p placed) {
	t.Helper()
	for _, name := range []string{"seg", "many", longest, "!"} {
		add(t, x, p.dir, name, segment(p.base+found[name]))
	}
	fine(t, x.Name(p.dir, "many", "more"))
	add(t, x, p.dir, "dir", directoryBranch())
	for _, l := range [][2]string{
		{"toseg", p.under("seg")}, {"tomore", p.under("more")}, {"tolink", p.under("toseg")},
		{"todir", p.under("dir")}, {"toroot", ">"}, {"tolinkdir", p.under("todir")},
		{"tonone", p.under("nothing")}, {"tolost", ">q>seg"}, {"intoseg", p.under("seg>t")},
		{"self", p.under("self")}, {"ping", p.under("pong")}, {"pong", p.under("ping")},
		{"row1", p.under("seg")},
	} {
		add(t, x, p.dir, l[0], link(l[1]))
	}
	for n := 2; n <= 10; n++ {
		add(t, x, p.dir, fmt.Sprint("row", n), link(p.under(fmt.Sprint("row", n-1))))
	}
}

// told is all that a hierarchy answers of its first directories and segments.
func told(x *tree.Tree) string {
	var s strings.Builder
	for dir := -1; dir < 12; dir++ {
		fmt.Fprintln(&s, dir, x.Len(dir))
		for _, name := range x.Names(dir) {
			b, ok := x.Look(dir, name)
			fmt.Fprintf(&s, "%q %+v %v\n", name, b, ok)
		}
	}
	for uid := range 130 {
		b, ok := x.ByUID(uid)
		home, there := x.Home(uid)
		fmt.Fprintf(&s, "%d %+v %v %d %v\n", uid, b, ok, home, there)
	}
	return s.String()
}

// unchanged makes calls, after which the hierarchy must be as it was.
func unchanged(t *testing.T, x *tree.Tree, calls func()) {
	t.Helper()
	before := told(x)
	calls()
	if after := told(x); after != before {
		t.Errorf("the hierarchy was\n%s, and is\n%s", before, after)
	}
}

func wantMay(t *testing.T, l []api.Rule, want bool) {
	t.Helper()
	if got := May(l); got != want {
		t.Errorf("May(%+v) = %v", l, got)
	}
}

// asked are the arguments of Find that a rule may look at.
type asked struct {
	rules []api.Rule
	work  string
	from  int
}

// wantFind wants the segment of that number, whole.
func wantFind(t *testing.T, x *tree.Tree, a asked, name string, uid int) {
	t.Helper()
	if b, e := Find(x, a.rules, a.work, a.from, name); !same(b, segment(uid)) || e != api.OK {
		t.Errorf("Find(%+v, %q) = %+v, %d, want segment %d", a, name, b, e, uid)
	}
}

// noFind wants an error, and a Branch that is all nought beside it.
func noFind(t *testing.T, x *tree.Tree, a asked, name string, want api.Errno) {
	t.Helper()
	b, e := Find(x, a.rules, a.work, a.from, name)
	if !same(b, tree.Branch{}) || b.ACL != nil || e != want {
		t.Errorf("Find(%+v, %q) = %+v, %d, want error %d", a, name, b, e, want)
	}
}

// waysTo are rules that look into one of the hill's places: of each kind, and over a Link too.
func waysTo(p placed) []asked {
	over := fmt.Sprint(">l", p.dir)
	return []asked{
		{[]api.Rule{referencing}, "no path", p.dir},
		{[]api.Rule{working}, p.path, -1},
		{[]api.Rule{working}, over, -1},
		{[]api.Rule{listed(p.path)}, "no path", -1},
		{[]api.Rule{listed(over)}, "no path", -1},
	}
}

// waysToNone are rules by which there is no directory.
func waysToNone() []asked {
	l := []asked{}
	for _, dir := range noDirs {
		l = append(l, asked{[]api.Rule{referencing}, ">", dir})
	}
	for _, path := range []string{">q", ">d>q", ">q>d", ">Last", ">seg", ">d>seg", ">d>seg>seg", ">toseg", ">tonone", ">wrong", ">round", ">round>d", ">nine", ">ping", ">d>self"} {
		l = append(l, asked{[]api.Rule{working}, path, 0}, asked{[]api.Rule{listed(path)}, ">", 0})
	}
	for _, path := range noPaths() {
		l = append(l, asked{[]api.Rule{working}, path, 0})
	}
	return l
}

// P14.1: May: no rules, and each kind with a Path and without one.
func TestMay(t *testing.T) {
	wantMay(t, nil, true)
	wantMay(t, []api.Rule{}, true)
	for _, path := range []string{">", ">d", ">d>e", longPath(20), strings.Repeat(">d", api.MaxDepth), ">" + longest, ">" + longest + ">" + longest, ">!>~"} {
		wantMay(t, []api.Rule{listed(path)}, true)
		wantMay(t, []api.Rule{{Kind: api.Referencing, Path: path}}, false)
		wantMay(t, []api.Rule{{Kind: api.Working, Path: path}}, false)
	}
	for _, path := range noPaths() {
		wantMay(t, []api.Rule{listed(path)}, false)
		wantMay(t, []api.Rule{{Kind: api.Referencing, Path: path}}, path == "")
		wantMay(t, []api.Rule{{Kind: api.Working, Path: path}}, path == "")
	}
}

// P14.1: the limits above are those of package api: one part more, or one sign more, is refused.
func TestMayLongPaths(t *testing.T) {
	if len(longPath(20)) != api.MaxPath {
		t.Fatalf("longPath(20) has %d signs", len(longPath(20)))
	}
	for n := 1; n < 30; n++ {
		wantMay(t, []api.Rule{listed(strings.Repeat(">d", n))}, n <= 16)
		wantMay(t, []api.Rule{listed(longPath(n))}, n <= 20)
		wantMay(t, []api.Rule{listed(">" + strings.Repeat("x", n+15))}, n+15 <= 32)
	}
}

// P14.1: May: a kind that is none is no rule, whatever its Path.
func TestMayKinds(t *testing.T) {
	for _, kind := range []int{0, 4, 5, 255, 257, 258, 259, -1, -2, -3, 1<<32 + 1, math.MinInt, math.MinInt + 1, math.MaxInt} {
		for _, path := range []string{"", ">", ">d", "d"} {
			wantMay(t, []api.Rule{{Kind: kind, Path: path}}, false)
		}
	}
	wantMay(t, []api.Rule{{Kind: 1}}, true)
	wantMay(t, []api.Rule{{Kind: 2}}, true)
	wantMay(t, []api.Rule{{Kind: 3, Path: ">"}}, true)
}

// P14.1: May: at most MaxRules, of all kinds together; the same one may stand there again.
func TestMayHowMany(t *testing.T) {
	for n := range 20 {
		for _, each := range []api.Rule{referencing, working, listed(">"), listed(">d")} {
			wantMay(t, slices.Repeat([]api.Rule{each}, n), n <= 8)
		}
		wantMay(t, slices.Repeat([]api.Rule{referencing, working, listed(">a"), listed(">b")}, 5)[:n], n <= 8)
	}
	wantMay(t, slices.Repeat([]api.Rule{working}, 1<<20), false)
}

// noRules are those that may not be, each in another way.
func noRules() []api.Rule {
	return []api.Rule{
		{}, {Kind: 4}, {Kind: 4, Path: ">"}, {Kind: -1}, {Kind: -1, Path: ">"}, {Path: ">"},
		{Kind: api.Referencing, Path: ">"}, {Kind: api.Working, Path: ">d"}, {Kind: api.Working, Path: "x"},
		listed(""), listed("d"), listed(">d>"), listed(longPath(21)), listed(strings.Repeat(">d", 17)), listed(">" + longest + "n"),
	}
}

// oneAmong is a list of so many rules that may be, but one that stands at that place.
func oneAmong(many, at int, bad api.Rule) []api.Rule {
	l := slices.Repeat([]api.Rule{referencing, working, listed(">d")}, many)[:many]
	l[at] = bad
	return l
}

// P14.1: May, and ErrArg of Find: one rule that may not be, wherever it stands, also behind one that would find the name.
func TestOneAmongMany(t *testing.T) {
	x := hill(t)
	unchanged(t, x, func() {
		for _, many := range []int{1, 2, 5, api.MaxRules} {
			for at := range many {
				wantMay(t, oneAmong(many, at, listed(">")), true)
				for _, bad := range noRules() {
					wantMay(t, oneAmong(many, at, bad), false)
					noFind(t, x, asked{oneAmong(many, at, bad), ">", 0}, "seg", api.ErrArg)
					noFind(t, x, asked{oneAmong(many, at, bad), ">q", -1}, "nothing", api.ErrArg)
				}
			}
		}
	})
}

// P14.1: Find by one rule of each kind: what is a Segment there, or one at last, field by field.
func TestFind(t *testing.T) {
	x := hill(t)
	unchanged(t, x, func() {
		for _, p := range places {
			for _, a := range waysTo(p) {
				for name, n := range found {
					wantFind(t, x, a, name, p.base+n)
				}
			}
		}
	})
}

// P14.1: a rule by which there is no Segment, alone: ErrNone; ahead of another: that other.
func TestNextRule(t *testing.T) {
	x := hill(t)
	unchanged(t, x, func() {
		for _, p := range places {
			for _, a := range waysTo(p) {
				for n, name := range lost {
					noFind(t, x, a, name, api.ErrNone)
					a.rules = append(a.rules[:1:1], listed(last.path))
					wantFind(t, x, a, name, last.base+n)
					a.rules = a.rules[:1]
				}
			}
		}
	})
}

// P14.1: a rule by which there is no directory, alone: ErrNone; ahead of another: that other.
func TestNoDirectory(t *testing.T) {
	x := hill(t)
	unchanged(t, x, func() {
		for _, a := range waysToNone() {
			for name, n := range found {
				noFind(t, x, a, name, api.ErrNone)
				b := asked{append(a.rules[:1:1], listed(">d")), a.work, a.from}
				wantFind(t, x, b, name, 20+n)
			}
			noFind(t, x, a, "nothing", api.ErrNone)
		}
	})
}

// P14.1: each rule looks into its own directory alone.
func TestOwnDirectory(t *testing.T) {
	x := hill(t)
	all := func(l ...api.Rule) asked { return asked{l, ">d", 2} }
	wantFind(t, x, all(referencing), "seg", 31)
	wantFind(t, x, all(working), "seg", 21)
	wantFind(t, x, all(listed(">")), "seg", 11)
	noFind(t, x, all(listed(">empty")), "seg", api.ErrNone)
	noFind(t, x, asked{[]api.Rule{referencing}, ">", 4}, "seg", api.ErrNone)
	noFind(t, x, asked{[]api.Rule{working}, ">empty", 0}, "seg", api.ErrNone)
	// Neither below that directory nor above it.
	add(t, x, 1, "deep", segment(90))
	add(t, x, 0, "high", segment(91))
	add(t, x, 2, "low", segment(92))
	for _, a := range waysTo(places[1]) {
		wantFind(t, x, a, "deep", 90)
		noFind(t, x, a, "high", api.ErrNone)
		noFind(t, x, a, "low", api.ErrNone)
	}
}

// P14.1: the rules are asked in order: of all that have the name the first answers.
func TestOrder(t *testing.T) {
	x := hill(t)
	rules := []api.Rule{referencing, working, listed(">"), listed(">empty"), listed(">q")}
	uids := []int{31, 21, 11, 0, 0}
	for i, first := range rules {
		for j, second := range rules {
			for k, third := range rules {
				a := asked{[]api.Rule{first, second, third}, ">d", 2}
				want := uids[i]
				for _, n := range []int{j, k} {
					if want == 0 {
						want = uids[n]
					}
				}
				if want == 0 {
					noFind(t, x, a, "seg", api.ErrNone)
				} else {
					wantFind(t, x, a, "seg", want)
				}
			}
		}
	}
}

// P14.1: two directories that have it: the first; one without and one with it, in both orders.
func TestTwo(t *testing.T) {
	x := hill(t)
	wantFind(t, x, asked{[]api.Rule{listed(">d"), listed(">d>sub")}, "", -1}, "seg", 21)
	wantFind(t, x, asked{[]api.Rule{listed(">d>sub"), listed(">d")}, "", -1}, "seg", 31)
	wantFind(t, x, asked{[]api.Rule{listed(">d"), listed(">empty")}, "", -1}, "seg", 21)
	wantFind(t, x, asked{[]api.Rule{listed(">empty"), listed(">d")}, "", -1}, "seg", 21)
	wantFind(t, x, asked{[]api.Rule{referencing, working}, ">d", 2}, "seg", 31)
	wantFind(t, x, asked{[]api.Rule{working, referencing}, ">d", 2}, "seg", 21)
	wantFind(t, x, asked{[]api.Rule{referencing, working}, ">d", 4}, "seg", 21)
	wantFind(t, x, asked{[]api.Rule{working, referencing}, ">empty", 2}, "seg", 31)
	// A Directory ahead of a Link, and a Segment behind both; and a Link that leads to a Segment ahead of that.
	add(t, x, 4, "dir", link(">d>seg"))
	wantFind(t, x, asked{[]api.Rule{listed(">d"), listed(">empty"), listed(">last")}, "", -1}, "dir", 21)
	wantFind(t, x, asked{[]api.Rule{listed(">d"), listed(">last"), listed(">empty")}, "", -1}, "dir", 100)
}

// P14.1: of MaxRules the last one counts too.
func TestLastOfMany(t *testing.T) {
	x := hill(t)
	for n := range api.MaxRules {
		l := append(slices.Repeat([]api.Rule{listed(">empty")}, n), listed(">d"))
		wantFind(t, x, asked{l, "", -1}, "seg", 21)
	}
	l := append(slices.Repeat([]api.Rule{listed(">empty")}, api.MaxRules), listed(">d"))
	noFind(t, x, asked{l, "", -1}, "seg", api.ErrArg)
	noFind(t, x, asked{l[:api.MaxRules], "", -1}, "seg", api.ErrNone)
}

// P14.1: no rules: ErrNone, whatever the working directory has.
func TestNoRules(t *testing.T) {
	x := hill(t)
	for name := range found {
		noFind(t, x, asked{nil, ">", 0}, name, api.ErrNone)
		noFind(t, x, asked{[]api.Rule{}, ">d", 1}, name, api.ErrNone)
	}
	for _, x := range []*tree.Tree{tree.New(), {}} {
		noFind(t, x, asked{nil, ">", 0}, "seg", api.ErrNone)
		noFind(t, x, asked{[]api.Rule{referencing, working, listed(">")}, ">", 0}, "seg", api.ErrNone)
	}
}

// P14.1: which names may be is what names.May says: each sign, and how many.
func TestSigns(t *testing.T) {
	x := hill(t)
	all := asked{[]api.Rule{referencing, working, listed(">empty")}, ">empty", 4}
	for sign := range 256 {
		name := string([]byte{byte(sign)})
		if sign <= 32 || sign >= 127 || sign == '>' {
			noFind(t, x, all, name, api.ErrName)
			continue
		}
		noFind(t, x, all, name, api.ErrNone)
		add(t, x, 4, name, segment(500+sign))
		wantFind(t, x, all, name, 500+sign)
	}
	for n := range 70 {
		want := api.ErrName
		if n >= 1 && n <= 32 {
			want = api.ErrNone
		}
		noFind(t, x, asked{[]api.Rule{listed(">d")}, "", -1}, strings.Repeat("z", n), want)
	}
}

// P14.1, R6: ErrArg ahead of ErrName, ErrName ahead of ErrNone.
func TestErrorsInOrder(t *testing.T) {
	x := hill(t)
	unchanged(t, x, func() {
		for _, name := range noNames {
			for _, bad := range noRules() {
				noFind(t, x, asked{[]api.Rule{bad}, ">", 0}, name, api.ErrArg)
				noFind(t, x, asked{[]api.Rule{working, bad}, ">q", -1}, name, api.ErrArg)
			}
			noFind(t, x, asked{slices.Repeat([]api.Rule{working}, 9), ">", 0}, name, api.ErrArg)
			noFind(t, x, asked{nil, ">", 0}, name, api.ErrName)
			for _, a := range append(waysTo(places[0]), waysToNone()...) {
				noFind(t, x, a, name, api.ErrName)
			}
		}
	})
}

// P14.1: a Working directory that is no path is asked only where a rule says Working.
func TestWorkNotAsked(t *testing.T) {
	x := hill(t)
	for _, work := range noPaths() {
		wantFind(t, x, asked{[]api.Rule{referencing}, work, 1}, "seg", 21)
		wantFind(t, x, asked{[]api.Rule{listed(">d")}, work, 0}, "seg", 21)
		wantFind(t, x, asked{[]api.Rule{working, listed(">d")}, work, 0}, "seg", 21)
		wantFind(t, x, asked{[]api.Rule{referencing, working}, work, 2}, "seg", 31)
	}
}

// P14.1: the way to the directory and the way in it are two walks: the Links of each are counted alone.
func TestTwoWalks(t *testing.T) {
	x := hill(t)
	for _, a := range []asked{{[]api.Rule{working}, ">eight", -1}, {[]api.Rule{listed(">eight")}, "", -1}} {
		wantFind(t, x, a, "row8", 21)
		wantFind(t, x, a, "seg", 21)
		noFind(t, x, a, "row9", api.ErrNone)
	}
	for _, a := range []asked{{[]api.Rule{working}, ">nine", -1}, {[]api.Rule{listed(">nine")}, "", -1}} {
		noFind(t, x, a, "seg", api.ErrNone)
	}
}

// P14.1, R5: a later call sees the hierarchy as it is then.
func TestLaterChanges(t *testing.T) {
	x := hill(t)
	l := asked{[]api.Rule{listed(">d"), working}, ">", -1}
	wantFind(t, x, l, "seg", 21)
	_, e := x.Delete(1, "seg")
	fine(t, e)
	wantFind(t, x, l, "seg", 11)
	wantFind(t, x, l, "toseg", 11)
	_, e = x.Delete(0, "seg")
	fine(t, e)
	noFind(t, x, l, "seg", api.ErrNone)
	noFind(t, x, l, "toseg", api.ErrNone)
	add(t, x, 1, "seg", segment(95))
	wantFind(t, x, l, "seg", 95)
	wantFind(t, x, l, "tolink", 95)
	fine(t, x.Unname(1, "many"))
	wantFind(t, x, l, "many", 12)
	wantFind(t, x, l, "more", 22)
	// A directory that is gone has nothing, also where another took its name.
	_, e = x.Delete(0, "empty")
	fine(t, e)
	n := add(t, x, 0, "empty", directoryBranch())
	add(t, x, n, "seg", segment(96))
	noFind(t, x, asked{[]api.Rule{referencing}, ">", 4}, "seg", api.ErrNone)
	wantFind(t, x, asked{[]api.Rule{referencing}, ">", n}, "seg", 96)
	wantFind(t, x, asked{[]api.Rule{listed(">empty")}, ">", 4}, "seg", 96)
}

// P14.1: who may do what with it isn't asked: a Segment that nobody may use is found too.
func TestNobodyMay(t *testing.T) {
	x := hill(t)
	bare := tree.Branch{Kind: tree.Segment, UID: 97}
	add(t, x, 1, "bare", bare)
	for _, a := range waysTo(places[1]) {
		if b, e := Find(x, a.rules, a.work, a.from, "bare"); !same(b, bare) || e != api.OK {
			t.Errorf("Find(%+v) = %+v, %d", a, b, e)
		}
	}
}

// R4: the list that is handed in isn't changed, spare room included.
func TestListUnchanged(t *testing.T) {
	x := hill(t)
	room := []api.Rule{listed(">empty"), working, listed(">d"), referencing, {Kind: 7, Path: "spare"}, {Kind: -1}, listed("no")}
	for n := range room {
		was := slices.Clone(room)
		May(room[:n])
		for _, name := range []string{"seg", "nothing", "row8", "dir", "", "a>b"} {
			Find(x, room[:n], ">l1", 2, name)
			Find(x, room[:n], "no path", -1, name)
			Find(nil, room[:n], ">", 0, name)
		}
		if !slices.Equal(room, was) {
			t.Fatalf("the first %d of the rules were handed in: they were %v, and are %v", n, was, room)
		}
	}
}

// R4: the list isn't kept: when it changes, later calls tell by the new rules alone, and an answer stays what it was.
func TestListNotKept(t *testing.T) {
	x := hill(t)
	l := []api.Rule{listed(">d"), working}
	first, e := Find(x, l, ">", -1, "seg")
	fine(t, e)
	unchanged(t, x, func() { l[0], l[1] = listed(">d>sub"), api.Rule{} })
	if !same(first, segment(21)) {
		t.Errorf("the answer changed: %+v", first)
	}
	wantMay(t, l, false)
	noFind(t, x, asked{l, ">", -1}, "seg", api.ErrArg)
	wantFind(t, x, asked{l[:1], ">", -1}, "seg", 31)
}

// R4: the list in the Branch that is answered is the asker's own, spare room too.
func TestAnswerIsNew(t *testing.T) {
	x := hill(t)
	for _, p := range places {
		for _, a := range waysTo(p) {
			for name, n := range found {
				first, e := Find(x, a.rules, a.work, a.from, name)
				fine(t, e)
				second, e := Find(x, a.rules, a.work, a.from, name)
				fine(t, e)
				first.ACL[0] = api.Term{User: "other"}
				clear(first.ACL[:cap(first.ACL)])
				if !same(second, segment(p.base+n)) {
					t.Errorf("Find(%+v, %q): a change of one answer changed the other: %+v", a, name, second)
				}
				wantFind(t, x, a, name, p.base+n)
			}
		}
	}
	if told(x) != told(hill(t)) {
		t.Error("a change of an answer changed the hierarchy")
	}
}

// R7: a nil tree: ErrArg, whatever else is asked.
func TestNilTree(t *testing.T) {
	lists := [][]api.Rule{nil, {}, {referencing}, {working}, {listed(">")}, {listed(">d"), referencing, working}, slices.Repeat([]api.Rule{working}, 9)}
	for _, bad := range noRules() {
		lists = append(lists, []api.Rule{bad})
	}
	for _, l := range lists {
		for _, name := range append([]string{"seg", longest}, noNames...) {
			for _, from := range append([]int{0, 1}, noDirs...) {
				for _, work := range []string{">", ">d", "", "no path"} {
					noFind(t, nil, asked{l, work, from}, name, api.ErrArg)
				}
			}
		}
	}
}
