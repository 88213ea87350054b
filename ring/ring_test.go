package ring

import (
	"math"
	"testing"

	"concentric/api"
)

// all is every flag at once.
var all = api.Flags{R: true, W: true, E: true}

func brackets(r1, r2, r3, gates int) api.Brackets {
	return api.Brackets{R1: r1, R2: r2, R3: r3, Gates: gates}
}

// someFlags is all eight sets of flags.
func someFlags() []api.Flags {
	var l []api.Flags
	for n := range 8 {
		l = append(l, api.Flags{R: n&1 != 0, W: n&2 != 0, E: n&4 != 0})
	}
	return l
}

// someBrackets is all brackets of rings from -1 to 8 with these gates, those that may not be too.
func someBrackets(gates ...int) []api.Brackets {
	var l []api.Brackets
	for _, g := range gates {
		for n := range 1000 {
			l = append(l, brackets(n/100-1, n/10%10-1, n%10-1, g))
		}
	}
	return l
}

// rings is a set of rings: a second reading of the brackets, by listing and not by comparing.
func rings(from, to int) map[int]int {
	set := map[int]int{}
	for r := from; r <= to; r++ {
		set[r] = 1
	}
	return set
}

// allowed reads P4.1's errors off a set of rings.
func allowed(b api.Brackets, flag bool, r int, set map[int]int) api.Errno {
	if rings(0, 7)[r] == 0 || !mayBe(b) {
		return api.ErrArg
	}
	if !flag {
		return api.ErrMode
	}
	if set[r] == 0 {
		return api.ErrRing
	}
	return api.OK
}

// mayBe reads P4.1 by listing: the brackets that may be are those that three rising counts come to.
func mayBe(b api.Brackets) bool {
	for r1 := 0; r1 < 8; r1++ {
		for r2 := r1; r2 < 8; r2++ {
			for r3 := r2; r3 < 8; r3++ {
				if b == brackets(r1, r2, r3, b.Gates) {
					return b.Gates > -1 && b.Gates < 1025
				}
			}
		}
	}
	return false
}

// P4.1: brackets that may be, their edges, and one beyond each.
func TestMay(t *testing.T) {
	for _, c := range []struct {
		b    api.Brackets
		want bool
	}{
		{brackets(1, 3, 5, 1), true},
		{brackets(0, 0, 0, 0), true},
		{brackets(7, 7, 7, 0), true},
		{brackets(0, 7, 7, 0), true},
		{brackets(0, 0, 7, 0), true},
		{brackets(4, 4, 4, api.MaxSize), true},
		{brackets(4, 4, 4, api.MaxSize+1), false},
		{brackets(4, 4, 4, -1), false},
		{brackets(4, 4, 4, math.MinInt), false},
		{brackets(4, 4, 4, math.MaxInt), false},
		{brackets(-1, 0, 0, 0), false},
		{brackets(-1, -1, -1, 0), false},
		{brackets(7, 7, 8, 0), false},
		{brackets(8, 8, 8, 0), false},
		{brackets(2, 1, 3, 0), false},
		{brackets(1, 3, 2, 0), false},
		{brackets(3, 2, 1, 0), false},
		{brackets(math.MinInt, 0, 0, 0), false},
		{brackets(0, 0, math.MaxInt, 0), false},
	} {
		if got := May(c.b); got != c.want {
			t.Errorf("May(%v) = %v", c.b, got)
		}
	}
}

// P4.1, R5: May of all brackets of small numbers, against the list of those that may be, and a second time.
func TestMayOfEach(t *testing.T) {
	fine := 0
	for _, b := range someBrackets(-1, 0, 1, api.MaxSize, api.MaxSize+1) {
		got := May(b)
		if want := mayBe(b); got != want || May(b) != want {
			t.Errorf("May(%v) = %v", b, got)
		}
		if got {
			fine++
		}
	}
	// 120 rising rows of three rings out of eight, with repeats; three of the gates may be.
	if fine != 3*120 {
		t.Errorf("%d brackets may be", fine)
	}
}

// P4.1: each access at every ring, row by row: the bracket's ends and one beyond them.
func TestAccessByRing(t *testing.T) {
	const (
		no  = api.ErrArg
		out = api.ErrRing
	)
	for _, c := range []struct {
		name string
		do   func(api.Brackets, api.Flags, int) api.Errno
		b    api.Brackets
		want [10]api.Errno // of rings -1 to 8
	}{
		{"Read", Read, brackets(1, 3, 5, 0), [10]api.Errno{no, 0, 0, 0, 0, out, out, out, out, no}},
		{"Write", Write, brackets(1, 3, 5, 0), [10]api.Errno{no, 0, 0, out, out, out, out, out, out, no}},
		{"Execute", Execute, brackets(1, 3, 5, 0), [10]api.Errno{no, out, 0, 0, 0, out, out, out, out, no}},
		{"Read", Read, brackets(4, 4, 4, 0), [10]api.Errno{no, 0, 0, 0, 0, 0, out, out, out, no}},
		{"Write", Write, brackets(4, 4, 4, 0), [10]api.Errno{no, 0, 0, 0, 0, 0, out, out, out, no}},
		{"Execute", Execute, brackets(4, 4, 4, 0), [10]api.Errno{no, out, out, out, out, 0, out, out, out, no}},
		{"Read", Read, brackets(0, 0, 0, 0), [10]api.Errno{no, 0, out, out, out, out, out, out, out, no}},
		{"Write", Write, brackets(0, 0, 0, 0), [10]api.Errno{no, 0, out, out, out, out, out, out, out, no}},
		{"Execute", Execute, brackets(0, 0, 0, 0), [10]api.Errno{no, 0, out, out, out, out, out, out, out, no}},
		{"Read", Read, brackets(7, 7, 7, 0), [10]api.Errno{no, 0, 0, 0, 0, 0, 0, 0, 0, no}},
		{"Write", Write, brackets(7, 7, 7, 0), [10]api.Errno{no, 0, 0, 0, 0, 0, 0, 0, 0, no}},
		{"Execute", Execute, brackets(7, 7, 7, 0), [10]api.Errno{no, out, out, out, out, out, out, out, 0, no}},
		{"Write", Write, brackets(0, 7, 7, 0), [10]api.Errno{no, 0, out, out, out, out, out, out, out, no}},
		{"Execute", Execute, brackets(0, 7, 7, 0), [10]api.Errno{no, 0, 0, 0, 0, 0, 0, 0, 0, no}},
	} {
		for i, want := range c.want {
			if got := c.do(c.b, all, i-1); got != want {
				t.Errorf("%s(%v) at ring %d = %v, want %v", c.name, c.b, i-1, got, want)
			}
		}
	}
}

// P4.1: an access asks for its own flag and for no other.
func TestAccessByFlag(t *testing.T) {
	b := brackets(2, 2, 2, 0)
	for _, f := range someFlags() {
		for _, c := range []struct {
			name string
			got  api.Errno
			may  bool
		}{
			{"Read", Read(b, f, 2), f.R},
			{"Write", Write(b, f, 2), f.W},
			{"Execute", Execute(b, f, 2), f.E},
		} {
			want := api.OK
			if !c.may {
				want = api.ErrMode
			}
			if c.got != want {
				t.Errorf("%s with %v = %v", c.name, f, c.got)
			}
		}
	}
}

// P4.1, R6: of several errors ErrArg goes first, then ErrMode, then ErrRing.
func TestAccessOrder(t *testing.T) {
	fine, bad := brackets(1, 1, 1, 0), brackets(2, 1, 3, 0)
	for name, do := range map[string]func(api.Brackets, api.Flags, int) api.Errno{"Read": Read, "Write": Write, "Execute": Execute} {
		for _, c := range []struct {
			b    api.Brackets
			f    api.Flags
			r    int
			want api.Errno
		}{
			{fine, api.Flags{}, -1, api.ErrArg},
			{fine, api.Flags{}, 8, api.ErrArg},
			{fine, all, math.MinInt, api.ErrArg},
			{fine, all, math.MaxInt, api.ErrArg},
			{bad, api.Flags{}, 7, api.ErrArg},
			{bad, all, 1, api.ErrArg},
			{brackets(0, 0, 0, -1), all, 0, api.ErrArg},
			{brackets(0, 0, 0, api.MaxSize+1), all, 0, api.ErrArg},
			{brackets(0, 7, 8, 0), all, 0, api.ErrArg},
			{brackets(-1, 7, 7, 0), all, 0, api.ErrArg},
			{fine, api.Flags{}, 7, api.ErrMode},
			{fine, api.Flags{}, 1, api.ErrMode},
			{fine, all, 7, api.ErrRing},
			{fine, all, 1, api.OK},
		} {
			if got := do(c.b, c.f, c.r); got != c.want {
				t.Errorf("%s(%v, %v, %d) = %v, want %v", name, c.b, c.f, c.r, got, c.want)
			}
		}
	}
}

// P4.1, R1, R5, R6: all accesses of all brackets, flags and rings, against the second reading, and again.
func TestAccessOfEach(t *testing.T) {
	for _, b := range someBrackets(0, api.MaxSize, api.MaxSize+1) {
		read, write, execute := rings(0, b.R2), rings(0, b.R1), rings(b.R1, b.R2)
		for _, f := range someFlags() {
			for r := -1; r <= 8; r++ {
				if got, want := Read(b, f, r), allowed(b, f.R, r, read); got != want || Read(b, f, r) != want {
					t.Fatalf("Read(%v, %v, %d) = %v, want %v", b, f, r, got, want)
				}
				if got, want := Write(b, f, r), allowed(b, f.W, r, write); got != want || Write(b, f, r) != want {
					t.Fatalf("Write(%v, %v, %d) = %v, want %v", b, f, r, got, want)
				}
				if got, want := Execute(b, f, r), allowed(b, f.E, r, execute); got != want || Execute(b, f, r) != want {
					t.Fatalf("Execute(%v, %v, %d) = %v, want %v", b, f, r, got, want)
				}
			}
		}
	}
}

// P4.2, R2, R6: calls, one by one: the brackets' ends, the gates' ends, and the order of the errors.
func TestCall(t *testing.T) {
	b := brackets(1, 3, 5, 2)
	for _, c := range []struct {
		b      api.Brackets
		f      api.Flags
		r, off int
		ring   int
		err    api.Errno
	}{
		{brackets(1, 3, 5, 1), all, 4, 0, 3, api.OK},
		{b, api.Flags{E: true}, 4, 0, 3, api.OK},
		{b, all, 0, 0, 0, api.ErrRing},
		{b, all, 1, 0, 1, api.OK},
		{b, all, 2, 0, 2, api.OK},
		{b, all, 3, 0, 3, api.OK},
		{b, all, 4, 1, 3, api.OK},
		{b, all, 5, 1, 3, api.OK},
		{b, all, 6, 0, 0, api.ErrRing},
		// The gates bind callers from above R2 alone.
		{b, all, 4, 2, 0, api.ErrGate},
		{b, all, 5, 2, 0, api.ErrGate},
		{b, all, 4, -1, 0, api.ErrGate},
		{b, all, 4, math.MinInt, 0, api.ErrGate},
		{b, all, 4, math.MaxInt, 0, api.ErrGate},
		{b, all, 3, 2, 3, api.OK},
		{b, all, 1, -1, 1, api.OK},
		{b, all, 2, math.MaxInt, 2, api.OK},
		{b, all, 2, math.MinInt, 2, api.OK},
		{brackets(1, 3, 5, 0), all, 4, 0, 0, api.ErrGate},
		{brackets(1, 3, 5, 0), all, 3, 0, 3, api.OK},
		{brackets(1, 3, 5, 0), all, 4, -1, 0, api.ErrGate},
		{brackets(1, 3, 5, api.MaxSize), all, 4, api.MaxSize - 1, 3, api.OK},
		{brackets(1, 3, 5, api.MaxSize), all, 4, api.MaxSize, 0, api.ErrGate},
		// Brackets whose numbers are alike leave no ring to call from above, or none but one to stay in.
		{brackets(4, 4, 4, 9), all, 4, 0, 4, api.OK},
		{brackets(4, 4, 4, 9), all, 5, 0, 0, api.ErrRing},
		{brackets(4, 4, 4, 9), all, 3, 0, 0, api.ErrRing},
		{brackets(0, 0, 7, 9), all, 7, 0, 0, api.OK},
		{brackets(0, 0, 7, 9), all, 7, 9, 0, api.ErrGate},
		{brackets(0, 0, 7, 9), all, 0, 9, 0, api.OK},
		{brackets(0, 0, 0, 9), all, 1, 0, 0, api.ErrRing},
		{brackets(7, 7, 7, 0), all, 7, 0, 7, api.OK},
		{brackets(7, 7, 7, 1), all, 6, 0, 0, api.ErrRing},
		{brackets(0, 7, 7, 0), all, 7, 5, 7, api.OK},
		// ErrArg, ErrMode, ErrRing, ErrGate: each ahead of all that follow it.
		{b, api.Flags{}, -1, -1, 0, api.ErrArg},
		{b, api.Flags{}, 8, -1, 0, api.ErrArg},
		{b, all, math.MaxInt, 0, 0, api.ErrArg},
		{b, all, math.MinInt, 0, 0, api.ErrArg},
		{brackets(3, 1, 5, 2), api.Flags{}, 7, -1, 0, api.ErrArg},
		{brackets(1, 3, 5, -1), all, 4, 0, 0, api.ErrArg},
		{brackets(1, 3, 5, api.MaxSize+1), all, 2, 0, 0, api.ErrArg},
		{brackets(1, 3, 8, 2), all, 2, 0, 0, api.ErrArg},
		{brackets(-1, 3, 5, 2), all, 2, 0, 0, api.ErrArg},
		{b, api.Flags{R: true, W: true}, 7, -1, 0, api.ErrMode},
		{b, api.Flags{R: true, W: true}, 4, -1, 0, api.ErrMode},
		{b, api.Flags{R: true, W: true}, 2, 0, 0, api.ErrMode},
		{b, all, 7, -1, 0, api.ErrRing},
		{b, all, 0, -1, 0, api.ErrRing},
	} {
		if ring, err := Call(c.b, c.f, c.r, c.off); ring != c.ring || err != c.err {
			t.Errorf("Call(%v, %v, %d, %d) = %d, %v, want %d, %v", c.b, c.f, c.r, c.off, ring, err, c.ring, c.err)
		}
	}
}

// called reads P4.2 as a row of targets: of each ring, which ring a call from it comes into.
func called(b api.Brackets, f api.Flags, r, off int) (int, api.Errno) {
	if e := allowed(b, f.E, r, rings(b.R1, b.R3)); e != api.OK {
		return 0, e
	}
	into := rings(b.R1, b.R2)
	if into[r] == 1 {
		return r, api.OK
	}
	if rings(0, b.Gates-1)[off] == 0 {
		return 0, api.ErrGate
	}
	return b.R2, api.OK
}

// P4.2, R1, R2, R5, R6: calls of all brackets, flags and rings, against the second reading, and again.
func TestCallOfEach(t *testing.T) {
	for _, b := range someBrackets(-1, 0, 1, 3) {
		for _, f := range someFlags() {
			for r := -1; r <= 8; r++ {
				for off := -1; off <= 3; off++ {
					ring, err := Call(b, f, r, off)
					again, same := Call(b, f, r, off)
					if wr, we := called(b, f, r, off); ring != wr || err != we || again != wr || same != we {
						t.Fatalf("Call(%v, %v, %d, %d) = %d, %v, want %d, %v", b, f, r, off, ring, err, wr, we)
					}
				}
			}
		}
	}
}

// T2: a call comes into a lower ring by a gate alone, from above R2 and at most R3, into R2; never into a higher one.
func TestCallFalls(t *testing.T) {
	falls := 0
	for _, b := range someBrackets(0, 1, 2, api.MaxSize) {
		for r := -1; r <= 8; r++ {
			for _, off := range []int{math.MinInt, -1, 0, 1, 2, api.MaxSize - 1, api.MaxSize, math.MaxInt} {
				ring, err := Call(b, all, r, off)
				if err != api.OK {
					continue
				}
				if ring > r {
					t.Fatalf("Call(%v, %d, %d) rises to %d", b, r, off, ring)
				}
				if ring == r {
					continue
				}
				falls++
				if r <= b.R2 || r > b.R3 || ring != b.R2 || off < 0 || off >= b.Gates {
					t.Fatalf("Call(%v, %d, %d) falls to %d", b, r, off, ring)
				}
			}
		}
	}
	if falls == 0 {
		t.Error("no call comes into a lower ring")
	}
}

// P4.2, T2, R5: a return comes to the greater of both rings, each cut to 0 to 7, and never below the one it is in.
func TestReturn(t *testing.T) {
	for _, c := range []struct{ now, to, want int }{
		{1, 4, 4}, {4, 1, 4}, {3, 3, 3}, {0, 0, 0}, {7, 7, 7}, {0, 7, 7}, {7, 0, 7},
		{-1, 0, 0}, {0, -1, 0}, {-1, -1, 0}, {-5, 3, 3}, {3, -5, 3},
		{8, 0, 7}, {0, 8, 7}, {8, 8, 7}, {2, 99, 7}, {99, 2, 7},
		{math.MinInt, -1, 0}, {math.MinInt, math.MinInt, 0}, {math.MaxInt, math.MinInt, 7}, {math.MinInt, math.MaxInt, 7},
	} {
		if got := Return(c.now, c.to); got != c.want {
			t.Errorf("Return(%d, %d) = %d, want %d", c.now, c.to, got, c.want)
		}
	}
	for now := range api.Rings {
		for to := range api.Rings {
			got := Return(now, to)
			if got < now || got < to || got != now && got != to || got != Return(to, now) {
				t.Errorf("Return(%d, %d) = %d", now, to, got)
			}
		}
	}
}
