package rules

import (
	"fmt"
	"math"
	"regexp"
	"strings"
	"testing"

	"concentric/api"
	"concentric/tree"
)

var (
	aName = regexp.MustCompile(`^[!-=?-~]{1,32}$`)
	aPath = regexp.MustCompile(`^(>|(>[!-=?-~]{1,32}){1,16})$`)
)

func isPath(path string) bool { return len(path) < 169 && aPath.MatchString(path) }

// plain is a second reading of the chapter: it asks the hierarchy alone, and each Link is a walk within the walk, all of them on one counter.
type plain struct {
	x     *tree.Tree
	links int
}

// stand is what stands in a directory by that name, followed: nil where there is nothing at last.
func (p *plain) stand(dir int, name string) *tree.Branch {
	b, ok := p.x.Look(dir, name)
	if !ok {
		return nil
	}
	if b.Kind == 3 {
		if p.links++; p.links == 9 {
			return nil
		}
		return p.at(b.Link)
	}
	return &b
}

// at goes up the path by its last mark, and down again.
func (p *plain) at(path string) *tree.Branch {
	cut := strings.LastIndex(path, ">")
	if cut < 0 || path == ">" {
		return &tree.Branch{Kind: 2}
	}
	up := p.at(path[:cut])
	if up == nil || up.Kind != 2 {
		return nil
	}
	return p.stand(up.Dir, path[cut+1:])
}

// may tells the rules as texts that a pattern takes.
func may(l []api.Rule) bool {
	for n, r := range l {
		switch fmt.Sprintf("%d %t", r.Kind, r.Path == "") {
		case "1 true", "2 true":
		case "3 false":
			if !isPath(r.Path) {
				return false
			}
		default:
			return false
		}
		if n == 8 {
			return false
		}
	}
	return true
}

// find goes through the rules from the last to the first: what an earlier one finds takes the place of a later one's.
func find(x *tree.Tree, a asked, name string) (tree.Branch, api.Errno) {
	if !may(a.rules) {
		return tree.Branch{}, api.ErrArg
	}
	if !aName.MatchString(name) {
		return tree.Branch{}, api.ErrName
	}
	var best *tree.Branch
	for n := len(a.rules) - 1; n >= 0; n-- {
		if b := look(x, a.rules[n], a, name); b != nil && b.Kind == 1 {
			best = b
		}
	}
	if best == nil {
		return tree.Branch{}, api.ErrNone
	}
	return *best, api.OK
}

// look is what one rule comes upon.
func look(x *tree.Tree, r api.Rule, a asked, name string) *tree.Branch {
	path := map[int]string{2: a.work, 3: r.Path}[r.Kind]
	dir := &tree.Branch{Kind: 2, Dir: a.from}
	if r.Kind != 1 {
		if !isPath(path) {
			return nil
		}
		dir = (&plain{x: x}).at(path)
	}
	if dir == nil || dir.Kind != 2 {
		return nil
	}
	return (&plain{x: x}).stand(dir.Dir, name)
}

// dice is a row of numbers that hangs on its start alone.
type dice uint64

func (d *dice) roll(n int) int {
	*d = *d*6364136223846793005 + 1442695040888963407
	return int(uint64(*d)>>33) % n
}

func (d *dice) part() string { return "abcdef"[d.roll(6):][:1] }

// path is one of few names, and seldom a long one, so that it often leads somewhere.
func (d *dice) path() string {
	path := ""
	for range d.roll(d.roll(5) + 1) {
		path += ">" + d.part()
	}
	if path == "" {
		return ">"
	}
	return path
}

// text is a path, or, now and then, none.
func (d *dice) text() string {
	if d.roll(15) == 0 {
		l := noPaths()
		return l[d.roll(len(l))]
	}
	return d.path()
}

func (d *dice) name() string {
	if d.roll(30) == 0 {
		return noNames[d.roll(len(noNames))]
	}
	return d.part()
}

// rule may be, but now and then.
func (d *dice) rule() api.Rule {
	switch n := d.roll(100); {
	case n < 25:
		return referencing
	case n < 50:
		return working
	case n < 98:
		return listed(d.path())
	}
	return api.Rule{Kind: d.roll(6) - 1, Path: []string{"", ">", ">d", "x", ">" + longest + "n"}[d.roll(5)]}
}

func (d *dice) asked() asked {
	a := asked{work: d.text(), from: d.roll(12) - 1}
	for range d.roll(4) + d.roll(4)*d.roll(2) + d.roll(40)/39*d.roll(5) {
		a.rules = append(a.rules, d.rule())
	}
	if d.roll(30) == 0 {
		a.from = noDirs[d.roll(len(noDirs))]
	}
	return a
}

// hierarchy is directories, Links and Segments by few names; what can't be added is left out.
func (d *dice) hierarchy() *tree.Tree {
	x := tree.New()
	made := 0
	for n := range 10 + d.roll(30) {
		b := segment(n + 1)
		b.Kind, b.Link = []int{1, 2, 2, 3, 3, 3}[d.roll(6)], d.path()
		dir, e := x.Add(d.roll(made+1), d.part(), b)
		if e == api.OK && b.Kind == 2 {
			made = dir
		}
	}
	return x
}

// P14.1, R2, R3: many searches in many hierarchies, against the second reading.
func TestAgainstPlain(t *testing.T) {
	seen, later := map[api.Errno]int{}, 0
	for start := range 300 {
		d := dice(start)
		x := d.hierarchy()
		unchanged(t, x, func() {
			for range 100 {
				a, name := d.asked(), d.name()
				if May(a.rules) != may(a.rules) {
					t.Fatalf("start %d: May(%+v) = %v", start, a.rules, May(a.rules))
				}
				b, e := Find(x, a.rules, a.work, a.from, name)
				want, wrong := find(x, a, name)
				if !same(b, want) || e != wrong {
					t.Fatalf("start %d: Find(%+v, %q) = %+v, %d, want %+v, %d", start, a, name, b, e, want, wrong)
				}
				seen[e]++
				if e == api.OK && look(x, a.rules[0], a, name) == nil {
					later++
				}
			}
		})
	}
	// The rows must come upon each answer often enough to tell something.
	for _, e := range []api.Errno{api.OK, api.ErrArg, api.ErrName, api.ErrNone} {
		if seen[e] < 500 {
			t.Errorf("answer %d was seen %d times", e, seen[e])
		}
	}
	if later < 500 {
		t.Errorf("a later rule than the first found the name %d times", later)
	}
}

// P14.1: May of every list of up to three rules out of some, against the second reading.
func TestMayAgainstPlain(t *testing.T) {
	some := append(noRules(), referencing, working, listed(">"), listed(">d"), api.Rule{Kind: math.MaxInt})
	try := func(l ...api.Rule) { wantMay(t, l, may(l)) }
	try()
	for _, first := range some {
		try(first)
		for _, second := range some {
			try(first, second)
			for _, third := range some {
				try(first, second, third)
			}
		}
	}
}

// R5: the same searches are answered the same way again.
func TestAgain(t *testing.T) {
	play := func() string {
		d := dice(5)
		x := d.hierarchy()
		var s strings.Builder
		for range 300 {
			a, name := d.asked(), d.name()
			b, e := Find(x, a.rules, a.work, a.from, name)
			fmt.Fprintf(&s, "%+v %d\n", b, e)
		}
		return s.String()
	}
	first := play()
	for range 10 {
		if play() != first {
			t.Fatal("the same searches were answered otherwise")
		}
	}
}
