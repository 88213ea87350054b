package sdw

import (
	"fmt"
	"slices"
	"strings"
	"testing"

	"concentric/api"
	"concentric/store"
	"concentric/tree"
)

// row lists numbers: the second reading looks rings and offsets up in lists, and compares none.
func row(from, to int) []int {
	var l []int
	for n := from; n <= to; n++ {
		l = append(l, n)
	}
	return l
}

// plain is a second reading of the chapters 4 and 11: of one SDW, every ring and offset that is well, listed at once.
type plain struct {
	may                    bool
	f                      api.Flags
	read, write, run, call []int
	gates, offs            []int
	top                    int
}

func plainOf(x SDW) plain {
	b := x.B
	rings := []int{b.R1, b.R2, b.R3}
	may := slices.IsSorted(rings) && slices.Contains(row(0, 7), b.R1) && slices.Contains(row(0, 7), b.R3) && b.Gates > -1 && b.Gates < 1025
	return plain{may, x.F, row(0, b.R2), row(0, b.R1), row(b.R1, b.R2), row(b.R2+1, b.R3), row(0, b.Gates-1), row(0, x.Size-1), b.R2}
}

// asked holds a ring against the list of those that have what is asked.
func (p plain) asked(flag bool, r int, rings ...int) api.Errno {
	if !p.may || r < 0 || r > 7 {
		return api.ErrArg
	}
	if !flag {
		return api.ErrMode
	}
	if !slices.Contains(rings, r) {
		return api.ErrRing
	}
	return api.OK
}

func (p plain) at(e api.Errno, off int) api.Errno {
	if e == api.OK && !slices.Contains(p.offs, off) {
		return api.ErrBound
	}
	return e
}

func (p plain) enters(r, off int) (int, api.Errno) {
	in := r
	e := p.asked(p.f.E, r, slices.Concat(p.run, p.call)...)
	if e == api.OK && slices.Contains(p.call, r) {
		in = p.top
		if !slices.Contains(p.gates, off) {
			e = api.ErrGate
		}
	}
	if e = p.at(e, off); e != api.OK {
		return 0, e
	}
	return in, api.OK
}

// both is what an SDW answers at a ring and an offset, and what the second reading does.
func both(x SDW, p plain, r, off int) (got, want [5]int) {
	in, e := x.Call(r, off)
	got = [5]int{int(x.Read(r, off)), int(x.Write(r, off)), int(x.Fetch(r, off)), in, int(e)}
	in, e = p.enters(r, off)
	read, write, run := p.at(p.asked(p.f.R, r, p.read...), off), p.at(p.asked(p.f.W, r, p.write...), off), p.at(p.asked(p.f.E, r, p.run...), off)
	return got, [5]int{int(read), int(write), int(run), in, int(e)}
}

// P11.1, R1, R2, R6: Read, Write, Fetch and Call of all brackets, flags, rings and a few offsets, against the second reading.
func TestAsksOfEach(t *testing.T) {
	for n := range 1000 {
		for _, gates := range []int{-1, 0, 1, 3} {
			b := brackets(n/100-1, n/10%10-1, n%10-1, gates)
			for m := range 8 {
				x := SDW{UID: 1, Size: 2, F: flagsOf(m), B: b}
				p := plainOf(x)
				for r := -1; r <= 8; r++ {
					for off := -1; off <= 3; off++ {
						if got, want := both(x, p, r, off); got != want {
							t.Fatalf("%+v at ring %d, offset %d: %v, want %v", x, r, off, got, want)
						}
					}
				}
			}
		}
	}
}

// T2: into a lower ring by Call alone, from above R2 and at most R3, to a gate that the segment has, into R2.
func TestFalls(t *testing.T) {
	falls := 0
	for n := range 512 {
		x := SDW{UID: 1, Size: 3, F: all, B: brackets(n/64, n/8%8, n%8, n%5)}
		for r := -1; r <= 8; r++ {
			for off := -1; off <= 5; off++ {
				in, e := x.Call(r, off)
				if e != api.OK || in == r {
					continue
				}
				falls++
				if in > r || in != x.B.R2 || r > x.B.R3 || off < 0 || off >= x.B.Gates || off >= 3 {
					t.Fatalf("Call(%d, %d) of %+v comes into %d", r, off, x, in)
				}
			}
		}
	}
	if falls == 0 {
		t.Error("no call comes into a lower ring")
	}
}

// dice is a row of numbers that hangs on its start alone.
type dice uint64

func (d *dice) roll(n int) int {
	*d = *d*6364136223846793005 + 1442695040888963407
	return int(uint64(*d)>>33) % n
}

func (d *dice) user() string { return []string{"bob", "jim", "kim", "*", ""}[d.roll(5)] }

func (d *dice) list() []api.Term {
	var l []api.Term
	for _, user := range []string{"*", "bob", "jim"} {
		if d.roll(2) == 0 {
			l = append(l, term(user, flagsOf(d.roll(8))))
		}
	}
	return l
}

func (d *dice) brackets() api.Brackets {
	l := []int{d.roll(8), d.roll(8), d.roll(8)}
	slices.Sort(l)
	return brackets(l[0], l[1], l[2], d.roll(4))
}

// notes is what a reader notes down of each call on a tree and a store, by itself: the branches by number, and the sizes.
type notes struct {
	x        *tree.Tree
	s        *store.Store
	branches map[int]tree.Branch
	sizes    map[int]int
}

func begun() *notes {
	return &notes{tree.New(), store.New(40), map[int]tree.Branch{}, map[int]int{}}
}

// name is where a number stands while it stands anywhere.
func name(uid int) string { return fmt.Sprint("s", uid) }

// turn makes one call on the tree or the store, and notes it down where it is taken.
func (n *notes) turn(d *dice) {
	uid, size := d.roll(8), d.roll(12)
	switch d.roll(8) {
	case 0, 1:
		if made, e := n.s.Make(size); e == api.OK {
			n.sizes[made] = size
		}
	case 2:
		if n.s.Drop(uid) == api.OK {
			delete(n.sizes, uid)
		}
	case 3:
		if n.s.Resize(uid, size) == api.OK {
			n.sizes[uid] = size
		}
	case 4, 5:
		b := tree.Branch{Kind: 1, UID: uid, Object: d.roll(3) == 0, ACL: d.list(), B: d.brackets()}
		if _, e := n.x.Add(0, name(uid), b); e == api.OK {
			n.branches[uid] = b
		}
	case 6:
		if _, e := n.x.Delete(0, name(uid)); e == api.OK && d.roll(2) == 0 {
			delete(n.branches, uid)
		} else if e == api.OK {
			n.again(uid)
		}
	case 7:
		l, b := d.list(), d.brackets()
		if n.x.Access(0, name(uid), l) == api.OK && n.x.Ringed(0, name(uid), b) == api.OK {
			n.branches[uid] = tree.Branch{UID: uid, Object: n.branches[uid].Object, ACL: l, B: b}
		}
	}
}

// again puts what was deleted back as it was noted, but as the other kind: an object, or none.
func (n *notes) again(uid int) {
	b := n.branches[uid]
	b.Kind, b.Object = 1, !b.Object
	n.branches[uid] = b
	n.x.Add(0, name(uid), b)
}

// of reads the promise off the notes; flags by going through the list from behind, where a user stands behind `*`.
func (n *notes) of(uid int, user string) (SDW, api.Errno) {
	b, known := n.branches[uid]
	size, kept := n.sizes[uid]
	if !known || !kept {
		return SDW{}, api.ErrNone
	}
	x := SDW{UID: uid, Size: size, B: b.B}
	for _, t := range slices.Backward(b.ACL) {
		if t.User == user || t.User == "*" {
			x.F = api.Flags{R: t.F.R, W: t.F.W && !b.Object, E: t.F.E}
			break
		}
	}
	return x, api.OK
}

// held asks for one segment, by both readings, and then at some ring and offset.
func (n *notes) held(d *dice) (got, want string, e api.Errno) {
	uid, user, r, off := d.roll(10)-1, d.user(), d.roll(10)-1, d.roll(14)-1
	x, e := Of(n.x, n.s, uid, user)
	y, f := n.of(uid, user)
	a, b := both(x, plainOf(y), r, off)
	told := func(l ...any) string { return fmt.Sprintf("%d, %q at ring %d, offset %d: %+v\n", uid, user, r, off, l) }
	return told(x, e, a), told(y, f, b), e
}

// P11.1, Ways: long rows of calls on a tree and a store, between which each SDW is made anew, against the second reading.
func TestAgainstPlain(t *testing.T) {
	seen := map[api.Errno]int{}
	for start := range 300 {
		d, n := dice(start), begun()
		for range 60 {
			n.turn(&d)
			for range 5 {
				got, want, e := n.held(&d)
				if got != want {
					t.Fatalf("start %d:\n%swant\n%s", start, got, want)
				}
				seen[e]++
			}
		}
	}
	// The rows must find a segment, and find none, often enough to tell something.
	if seen[api.OK] < 5000 || seen[api.ErrNone] < 5000 || len(seen) != 2 {
		t.Errorf("answers were seen so often: %v", seen)
	}
}

// R5: the same rows are answered the same way a second time.
func TestAgain(t *testing.T) {
	play := func() string {
		d, n := dice(5), begun()
		var s strings.Builder
		for range 200 {
			n.turn(&d)
			got, _, _ := n.held(&d)
			s.WriteString(got)
		}
		return s.String()
	}
	if play() != play() {
		t.Error("the same calls were answered otherwise")
	}
}
