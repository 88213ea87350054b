package walk

import (
	"fmt"
	"strings"
	"testing"

	"concentric/api"
	"concentric/tree"
)

// plain is a second reading of the chapter: each Link is a walk within the walk, by its own path alone, and all of them count on one counter.
type plain struct {
	x     *tree.Tree
	links int
}

// stand is what stands in a directory by that name, followed.
func (p *plain) stand(dir int, name string) (tree.Branch, api.Errno) {
	b, ok := p.x.Look(dir, name)
	if !ok {
		return tree.Branch{}, api.ErrNone
	}
	if b.Kind != 3 {
		return b, api.OK
	}
	p.links++
	if p.links == 9 {
		return tree.Branch{}, api.ErrChase
	}
	return p.find(b.Link)
}

// find goes up the path by its last mark, and down again.
func (p *plain) find(path string) (tree.Branch, api.Errno) {
	if path == ">" || path == "" {
		return tree.Branch{Kind: 2}, api.OK
	}
	cut := strings.LastIndex(path, ">")
	dir, e := p.dir(path[:cut])
	if e != api.OK {
		return tree.Branch{}, e
	}
	return p.stand(dir, path[cut+1:])
}

func (p *plain) dir(path string) (int, api.Errno) {
	b, e := p.find(path)
	if e == api.OK && b.Kind != 2 {
		return 0, api.ErrKind
	}
	return b.Dir, e
}

func (p *plain) to(path string) (int, string, api.Errno) {
	cut := strings.LastIndex(path, ">")
	if path == ">" {
		return 0, "", api.ErrName
	}
	dir, e := p.dir(path[:cut])
	if e != api.OK {
		return 0, "", e
	}
	return dir, path[cut+1:], api.OK
}

// dice is a row of numbers that hangs on its start alone.
type dice uint64

func (d *dice) roll(n int) int {
	*d = *d*6364136223846793005 + 1442695040888963407
	return int(uint64(*d)>>33) % n
}

// somePath is a path of few names, and seldom a long one, so that it often leads somewhere.
func somePath(d *dice, most int) string {
	path := ""
	for range d.roll(d.roll(most+1) + 1) {
		path += ">" + somePart(d)
	}
	if path == "" {
		return ">"
	}
	return path
}

func somePart(d *dice) string { return "abcdef"[d.roll(6):][:1] }

// someHill is directories, Links and Segments by few names; what can't be added is left out.
func someHill(d *dice) *tree.Tree {
	x := tree.New()
	made := 0
	for n := range 10 + d.roll(30) {
		kind := []int{1, 2, 2, 3, 3, 3}[d.roll(6)]
		dir, e := x.Add(d.roll(made+1), somePart(d), tree.Branch{Kind: kind, UID: n + 1, Link: somePath(d, 4), ACL: list("me"), B: brackets})
		if e == api.OK && kind == 2 {
			made = dir
		}
	}
	return x
}

// turns makes one call of each of the four, of both readings, and tells what each answered.
func turns(d *dice, x *tree.Tree) (got, want string) {
	path, at, name := somePath(d, 12), d.roll(12), somePart(d)
	told := func(l ...any) string { return fmt.Sprintf("%s, %d %s: %+v\n", path, at, name, l) }
	n, e := Dir(x, path)
	m, f := (&plain{x: x}).dir(path)
	got, want = told("Dir", n, e), told("Dir", m, f)
	n, s, e := To(x, path)
	m, z, f := (&plain{x: x}).to(path)
	got, want = got+told("To", n, s, e), want+told("To", m, z, f)
	b, e := Find(x, path)
	c, f := (&plain{x: x}).find(path)
	got, want = got+told("Find", b, e), want+told("Find", c, f)
	b, e = In(x, at, name)
	c, f = (&plain{x: x}).stand(at, name)
	return got + told("In", b, e), want + told("In", c, f)
}

// P8.1, R2, R3: many walks over many hierarchies, against the second reading.
func TestAgainstPlain(t *testing.T) {
	for start := range 300 {
		d := dice(start)
		x := someHill(&d)
		unchanged(t, x, func() {
			for range 100 {
				if got, want := turns(&d, x); got != want {
					t.Fatalf("start %d:\n%swant\n%s", start, got, want)
				}
			}
		})
	}
}

// The hierarchies of the test above must give each answer often enough to tell something.
func TestPlainReaches(t *testing.T) {
	seen := map[api.Errno]int{}
	overLinks := 0
	for start := range 300 {
		d := dice(start)
		x := someHill(&d)
		for range 100 {
			p := &plain{x: x}
			b, e := p.find(somePath(&d, 12))
			seen[e]++
			if b.Kind == tree.Segment && p.links > 1 {
				overLinks++
			}
		}
	}
	for _, e := range []api.Errno{api.OK, api.ErrNone, api.ErrKind, api.ErrChase} {
		if seen[e] < 1000 {
			t.Errorf("answer %d was seen %d times", e, seen[e])
		}
	}
	if overLinks < 100 {
		t.Errorf("a Segment was found over several Links %d times", overLinks)
	}
}

// R5: the same walks are answered the same way a second time.
func TestAgain(t *testing.T) {
	play := func() string {
		d := dice(5)
		x := someHill(&d)
		var s strings.Builder
		for range 100 {
			got, _ := turns(&d, x)
			s.WriteString(got)
		}
		return s.String()
	}
	if play() != play() {
		t.Error("the same walks were answered otherwise")
	}
}
