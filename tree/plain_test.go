package tree

import (
	"fmt"
	"slices"
	"strings"
	"testing"

	"concentric/api"
)

// isName reads chapter 3's promise of a name sign by sign.
func isName(s string) bool {
	for i := range len(s) {
		if c := s[i]; c <= 32 || c >= 127 || c == '>' {
			return false
		}
	}
	return len(s) >= 1 && len(s) <= 32
}

// isPath reads chapter 3's promise of a path part by part.
func isPath(s string) bool {
	if len(s) > 168 || strings.Count(s, ">") > 16 || s == "" || s[0] != '>' {
		return false
	}
	for rest := s[1:]; s != ">"; {
		part, behind, more := strings.Cut(rest, ">")
		if !isName(part) {
			return false
		}
		if !more {
			break
		}
		rest = behind
	}
	return true
}

// isList reads chapter 6's promise of a list by holding all pairs against each other.
func isList(l []api.Term) bool {
	for i, t := range l {
		for _, later := range l[i+1:] {
			if t.User >= later.User {
				return false
			}
		}
		if !isName(t.User) || len(t.User) > 16 {
			return false
		}
	}
	return len(l) <= 16
}

func isBrackets(b api.Brackets) bool {
	row := []int{0, b.R1, b.R2, b.R3, 7}
	return slices.IsSorted(row) && b.Gates >= 0 && b.Gates <= 1024
}

// label is a name of a thing, in the second reading.
type label struct {
	dir   int
	name  string
	thing int
}

// plain is a second reading of the chapter: things in a row, labels in a row, all asked by going through them.
type plain struct {
	things []Branch
	labels []label
	made   int
}

// at answers a thing's place in the row, -1 where no label says it.
func (p *plain) at(dir int, name string) int {
	for _, l := range p.labels {
		if l.dir == dir && l.name == name {
			return l.thing
		}
	}
	return -1
}

// labelled is all labels of a thing.
func (p *plain) labelled(thing int) []label {
	var l []label
	for _, each := range p.labels {
		if each.thing == thing {
			l = append(l, each)
		}
	}
	return l
}

// has tells whether the tree has a thing, which is so while a label says it.
func (p *plain) has(is func(Branch) bool) (int, bool) {
	for i, b := range p.things {
		if is(b) && len(p.labelled(i)) > 0 {
			return i, true
		}
	}
	return -1, false
}

func (p *plain) isDir(dir int) bool {
	_, ok := p.has(func(b Branch) bool { return b.Kind == 2 && b.Dir == dir })
	return ok || dir == 0
}

func (p *plain) uid(uid int) (int, bool) {
	return p.has(func(b Branch) bool { return b.Kind == 1 && b.UID == uid })
}

func (p *plain) add(dir int, name string, b Branch) (int, api.Errno) {
	_, twice := p.uid(b.UID)
	switch {
	case !p.isDir(dir):
		return 0, api.ErrNone
	case !isName(name):
		return 0, api.ErrName
	case p.at(dir, name) >= 0:
		return 0, api.ErrThere
	case b.Kind < 1 || b.Kind > 3:
		return 0, api.ErrKind
	case b.Kind == 1 && (b.UID <= 0 || !isList(b.ACL) || !isBrackets(b.B)):
		return 0, api.ErrArg
	case b.Kind == 1 && twice:
		return 0, api.ErrThere
	case b.Kind == 3 && !isPath(b.Link):
		return 0, api.ErrName
	}
	own := Branch{Kind: b.Kind}
	switch b.Kind {
	case 1:
		own.UID, own.Object, own.ACL, own.B = b.UID, b.Object, slices.Clone(b.ACL), b.B
	case 2:
		p.made++
		own.Dir = p.made
	case 3:
		own.Link = b.Link
	}
	p.labels = append(p.labels, label{dir, name, len(p.things)})
	p.things = append(p.things, own)
	return own.Dir, api.OK
}

func (p *plain) look(dir int, name string) (Branch, bool) {
	at := p.at(dir, name)
	if at < 0 {
		return Branch{}, false
	}
	return p.things[at], true
}

func (p *plain) name(dir int, name, more string) api.Errno {
	at := p.at(dir, name)
	switch {
	case at < 0:
		return api.ErrNone
	case !isName(more):
		return api.ErrName
	case p.at(dir, more) >= 0:
		return api.ErrThere
	}
	p.labels = append(p.labels, label{dir, more, at})
	return api.OK
}

func (p *plain) unname(dir int, name string) api.Errno {
	at := p.at(dir, name)
	switch {
	case at < 0:
		return api.ErrNone
	case len(p.labelled(at)) == 1:
		return api.ErrBusy
	}
	p.labels = slices.DeleteFunc(p.labels, func(l label) bool { return l == label{dir, name, at} })
	return api.OK
}

func (p *plain) remove(dir int, name string) (Branch, api.Errno) {
	at := p.at(dir, name)
	if at < 0 {
		return Branch{}, api.ErrNone
	}
	b := p.things[at]
	if b.Kind == 2 && len(p.names(b.Dir)) > 0 {
		return Branch{}, api.ErrBusy
	}
	p.labels = slices.DeleteFunc(p.labels, func(l label) bool { return l.thing == at })
	return b, api.OK
}

func (p *plain) access(dir int, name string, l []api.Term) api.Errno {
	at := p.at(dir, name)
	switch {
	case at < 0:
		return api.ErrNone
	case p.things[at].Kind != 1:
		return api.ErrKind
	case !isList(l):
		return api.ErrArg
	}
	p.things[at].ACL = slices.Clone(l)
	return api.OK
}

func (p *plain) ringed(dir int, name string, b api.Brackets) api.Errno {
	at := p.at(dir, name)
	switch {
	case at < 0:
		return api.ErrNone
	case p.things[at].Kind != 1:
		return api.ErrKind
	case !isBrackets(b):
		return api.ErrArg
	}
	p.things[at].B = b
	return api.OK
}

func (p *plain) names(dir int) []string {
	var l []string
	for _, each := range p.labels {
		if each.dir == dir {
			l = append(l, each.name)
		}
	}
	slices.SortFunc(l, strings.Compare)
	return l
}

// dice is a row of numbers that hangs on its start alone.
type dice uint64

func (d *dice) roll(n int) int {
	*d = *d*6364136223846793005 + 1442695040888963407
	return int(uint64(*d)>>33) % n
}

func pick[T any](d *dice, l ...T) T { return l[d.roll(len(l))] }

// someName is one of few, so that names meet; now and then one that may not be.
func someName(d *dice) string {
	if d.roll(20) > 0 {
		return pick(d, "a", "b", "c", "d", "e", "f")
	}
	return pick(d, "", "x>y")
}

// someList is mostly one that may be, as are the brackets.
func someList(d *dice) []api.Term {
	if d.roll(6) > 0 {
		return pick(d, nil, list("*"), list("a", "b"), rising(3), rising(16))
	}
	return pick(d, list("b", "a"), rising(17), list(""))
}

func someBrackets(d *dice) api.Brackets {
	if d.roll(6) > 0 {
		return api.Brackets{R1: d.roll(3), R2: d.roll(3) + 2, R3: d.roll(4) + 4, Gates: d.roll(1025)}
	}
	return pick(d, api.Brackets{R1: 1}, api.Brackets{R3: 8}, api.Brackets{Gates: 1025})
}

func someBranch(d *dice) Branch {
	b := Branch{Kind: pick(d, 1, 1, 1, 1, 2, 2, 2, 3, 3, 0, 4), UID: d.roll(9), Dir: d.roll(9), Object: d.roll(2) > 0, ACL: someList(d), B: someBrackets(d)}
	b.Link = pick(d, ">", ">a", ">a>b", "", "a", ">>", strings.Repeat(">a", 16), strings.Repeat(">a", 17))
	return b
}

// turn makes one call of both readings and tells what each answered.
func turn(d *dice, x *Tree, p *plain) (string, string) {
	dir, name := d.roll(min(p.made, 5)+2), someName(d)
	if p.made > 5 && d.roll(2) > 0 {
		dir = p.made - d.roll(4)
	}
	switch d.roll(12) {
	case 0, 1:
		more := someName(d)
		return fmt.Sprint("name ", x.Name(dir, name, more)), fmt.Sprint("name ", p.name(dir, name, more))
	case 2:
		return fmt.Sprint("unname ", x.Unname(dir, name)), fmt.Sprint("unname ", p.unname(dir, name))
	case 3, 4:
		a, e := x.Delete(dir, name)
		b, f := p.remove(dir, name)
		return fmt.Sprintf("delete %+v %d", a, e), fmt.Sprintf("delete %+v %d", b, f)
	case 5:
		l := someList(d)
		return fmt.Sprint("access ", x.Access(dir, name, l)), fmt.Sprint("access ", p.access(dir, name, l))
	case 6:
		b := someBrackets(d)
		return fmt.Sprint("ringed ", x.Ringed(dir, name, b)), fmt.Sprint("ringed ", p.ringed(dir, name, b))
	default:
		b := someBranch(d)
		n, e := x.Add(dir, name, b)
		m, f := p.add(dir, name, b)
		return fmt.Sprint("add ", n, e), fmt.Sprint("add ", m, f)
	}
}

// alike holds all that can be told of a tree against the second reading.
func alike(x *Tree, p *plain) string {
	for dir := -1; dir <= p.made+1; dir++ {
		if l := p.names(dir); !slices.Equal(x.Names(dir), l) || x.Len(dir) != len(l) {
			return fmt.Sprintf("directory %d has %q, %d, want %q", dir, x.Names(dir), x.Len(dir), l)
		}
		for _, name := range []string{"a", "b", "c", "d", "e", "f", "", "x>y"} {
			a, ok := x.Look(dir, name)
			b, is := p.look(dir, name)
			if !same(a, b) || ok != is {
				return fmt.Sprintf("Look(%d, %q) = %+v, %v, want %+v, %v", dir, name, a, ok, b, is)
			}
		}
	}
	for uid := -1; uid < 10; uid++ {
		b, ok := x.ByUID(uid)
		dir, is := x.Home(uid)
		at, there := p.uid(uid)
		var want Branch
		home := 0
		if there {
			want, home = p.things[at], p.labelled(at)[0].dir
		}
		if !same(b, want) || ok != there || dir != home || is != there {
			return fmt.Sprintf("segment %d: %+v, %v, %d, %v, want %+v, %v, %d", uid, b, ok, dir, is, want, there, home)
		}
	}
	return ""
}

// P7.1, P7.2, R2, R3: long rows of calls, against the second reading, with all that can be told looked at after each.
func TestAgainstPlain(t *testing.T) {
	for start := range 60 {
		d, x, p := dice(start), New(), &plain{}
		for n := range 250 {
			got, want := turn(&d, x, p)
			if got != want {
				t.Fatalf("start %d, call %d: %s, want %s", start, n, got, want)
			}
			if what := alike(x, p); what != "" {
				t.Fatalf("start %d, call %d (%s): %s", start, n, got, what)
			}
		}
	}
}

// R5: the same calls are answered the same way a second time, and each thing asked twice is told twice alike.
func TestAgain(t *testing.T) {
	play := func() []string {
		d, x, p := dice(5), New(), &plain{}
		var l []string
		for range 200 {
			got, _ := turn(&d, x, p)
			l = append(l, got, told(x))
			if told(x) != l[len(l)-1] {
				t.Fatal("asked again, it is told otherwise")
			}
		}
		return l
	}
	if !slices.Equal(play(), play()) {
		t.Error("the same calls were answered otherwise")
	}
}

// The second reading's own readings of names, paths, lists and brackets must tell apart what the edges tell apart.
func TestPlainReadings(t *testing.T) {
	if !isPath(">") || !isPath(">a>b") || isPath("") || isPath("a") || isPath(">>") || isPath(">a>") || isPath(strings.Repeat(">a", 17)) {
		t.Error("isPath")
	}
	for good, all := range lists() {
		for _, l := range all {
			if isList(l) != good {
				t.Errorf("isList(%v) = %v", l, !good)
			}
		}
	}
	for good, all := range rings() {
		for _, b := range all {
			if isBrackets(b) != good {
				t.Errorf("isBrackets(%v) = %v", b, !good)
			}
		}
	}
}
