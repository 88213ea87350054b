package area

import (
	"math"
	"slices"
	"testing"

	"concentric/api"
)

// extremes are numbers that no call may stumble over.
var extremes = []int{math.MinInt, math.MinInt + 1, -1 << 32, 1 << 32, 1<<32 + 1, math.MaxInt - 1, math.MaxInt}

// far is past the end of every area whose whole look is asked.
const far = 40

// look is all that an area of less than far words tells, by base: a call that is refused must leave it as it was.
type look struct {
	used  int
	rooms [far][]api.Word
}

// lookAt asks all there is to ask, and holds the answers against each other.
func lookAt(t *testing.T, a *Area) look {
	t.Helper()
	l := look{used: a.Used()}
	used, end := 0, 0
	for base := range far {
		size := a.Size(base)
		if size == 0 {
			wantNone(t, a, base)
			continue
		}
		if base < end {
			t.Errorf("the room at %d begins in another one, which goes to %d", base, end)
		}
		used, end = used+size, base+size
		for off := range size {
			w, e := a.Read(base, off)
			if e != api.OK || w > api.Mask {
				t.Errorf("Read(%d, %d) = %d, %d", base, off, w, e)
			}
			l.rooms[base] = append(l.rooms[base], w)
		}
		wantOut(t, a, base, size)
	}
	if used != l.used {
		t.Errorf("Used() = %d, where the rooms have %d", l.used, used)
	}
	return l
}

func (l look) same(m look) bool {
	return l.used == m.used && slices.EqualFunc(l.rooms[:], m.rooms[:], slices.Equal)
}

// unchanged calls and tells if an area looks otherwise afterwards.
func unchanged(t *testing.T, a *Area, call func()) {
	t.Helper()
	before := lookAt(t, a)
	call()
	if after := lookAt(t, a); !before.same(after) {
		t.Errorf("was %v, is %v", before, after)
	}
}

// becomes calls and wants an area to look the way it did, but for what is changed in that look.
func becomes(t *testing.T, a *Area, change func(*look), call func()) {
	t.Helper()
	want := lookAt(t, a)
	change(&want)
	call()
	if l := lookAt(t, a); !l.same(want) {
		t.Errorf("is %v, want %v", l, want)
	}
}

// wantNone wants no room to begin there, whatever the offset.
func wantNone(t *testing.T, a *Area, base int) {
	t.Helper()
	if n := a.Size(base); n != 0 {
		t.Errorf("Size(%d) = %d", base, n)
	}
	for _, off := range append([]int{-1, 0, 1}, extremes...) {
		noRead(t, a, base, off, api.ErrNone)
	}
}

// wantOut wants a room to have no words ahead of its first and behind its last.
func wantOut(t *testing.T, a *Area, base, size int) {
	t.Helper()
	for _, off := range []int{-1, -2, size, size + 1, math.MinInt, math.MaxInt} {
		noRead(t, a, base, off, api.ErrBound)
	}
}

// wantTake wants a room of noughts at base, and all else as it was.
func wantTake(t *testing.T, a *Area, n, base int) {
	t.Helper()
	change := func(l *look) {
		l.used += n
		l.rooms[base] = make([]api.Word, n)
	}
	becomes(t, a, change, func() {
		if b, e := a.Take(n); b != base || e != api.OK {
			t.Fatalf("Take(%d) = %d, %d, want %d", n, b, e, base)
		}
	})
	wantSize(t, a, base, n)
}

// noTake wants an error, 0 beside it, and nothing changed.
func noTake(t *testing.T, a *Area, n int, want api.Errno) {
	t.Helper()
	unchanged(t, a, func() {
		if b, e := a.Take(n); b != 0 || e != want {
			t.Errorf("Take(%d) = %d, %d, want error %d", n, b, e, want)
		}
	})
}

// wantGive wants a room's words free, and all else as it was.
func wantGive(t *testing.T, a *Area, base int) {
	t.Helper()
	change := func(l *look) {
		l.used -= len(l.rooms[base])
		l.rooms[base] = nil
	}
	becomes(t, a, change, func() {
		if !a.Give(base) {
			t.Errorf("Give(%d) = false", base)
		}
	})
	wantNone(t, a, base)
}

// noGive wants false, and nothing changed.
func noGive(t *testing.T, a *Area, base int) {
	t.Helper()
	unchanged(t, a, func() {
		if a.Give(base) {
			t.Errorf("Give(%d) = true", base)
		}
	})
}

func wantRead(t *testing.T, a *Area, base, off int, want api.Word) {
	t.Helper()
	if w, e := a.Read(base, off); w != want || e != api.OK {
		t.Errorf("Read(%d, %d) = %d, %d, want %d", base, off, w, e, want)
	}
}

// noRead wants an error, and 0 beside it.
func noRead(t *testing.T, a *Area, base, off int, want api.Errno) {
	t.Helper()
	if w, e := a.Read(base, off); w != 0 || e != want {
		t.Errorf("Read(%d, %d) = %d, %d, want error %d", base, off, w, e, want)
	}
}

// wantWrite wants the word's lowest 36 bits there, and all else as it was.
func wantWrite(t *testing.T, a *Area, base, off int, w api.Word) {
	t.Helper()
	becomes(t, a, func(l *look) { l.rooms[base][off] = w % (1 << 36) }, func() {
		if e := a.Write(base, off, w); e != api.OK {
			t.Errorf("Write(%d, %d, %d) = %d", base, off, w, e)
		}
	})
}

// noWrite wants an error, and nothing changed.
func noWrite(t *testing.T, a *Area, base, off int, want api.Errno) {
	t.Helper()
	unchanged(t, a, func() {
		if e := a.Write(base, off, 5); e != want {
			t.Errorf("Write(%d, %d, 5) = %d, want error %d", base, off, e, want)
		}
	})
}

func wantSize(t *testing.T, a *Area, base, want int) {
	t.Helper()
	if n := a.Size(base); n != want {
		t.Errorf("Size(%d) = %d, want %d", base, n, want)
	}
}

func wantUsed(t *testing.T, a *Area, want int) {
	t.Helper()
	if n := a.Used(); n != want {
		t.Errorf("Used() = %d, want %d", n, want)
	}
}

// taken is an area of n words with rooms of those sizes, one behind the other from 0 on, each word of them written.
func taken(t *testing.T, n int, sizes ...int) *Area {
	t.Helper()
	a, base := New(n), 0
	for _, size := range sizes {
		wantTake(t, a, size, base)
		fill(t, a, base)
		base += size
	}
	return a
}

// fill writes into each word of a room one that tells whose it is.
func fill(t *testing.T, a *Area, base int) {
	t.Helper()
	for off := range a.Size(base) {
		if e := a.Write(base, off, api.Word(base<<20+off+1)); e != api.OK {
			t.Fatalf("Write(%d, %d) = %d", base, off, e)
		}
	}
}

// holed is an area of 20 words with rooms at 0, 5, 9 and 14, of 2, 1, 3 and 2 words: between them 3, 3 and 2 are free, and 4 behind them.
func holed(t *testing.T) *Area {
	t.Helper()
	a := taken(t, 20, 2, 3, 1, 3, 3, 2, 2)
	for _, base := range []int{2, 6, 12} {
		wantGive(t, a, base)
	}
	return a
}

// holes are the places of holed where no room begins: within a room, or free.
var holes = []int{1, 2, 3, 4, 6, 7, 8, 10, 11, 12, 13, 15, 16, 17, 18, 19}

// outside are numbers that are no place of an area of 20 words.
var outside = append([]int{-20, -2, -1, 20, 21, 22}, extremes...)

// P15.1: the chapter's example.
func TestExample(t *testing.T) {
	a := New(10)
	wantTake(t, a, 3, 0)
	wantTake(t, a, 2, 3)
	wantGive(t, a, 0)
	wantTake(t, a, 2, 0)
}

// P15.1: of a new area nothing is taken, and there are as many words as are asked.
func TestNew(t *testing.T) {
	for _, n := range []int{0, 1, 2, 3, 10, far - 1} {
		a := New(n)
		if a == nil {
			t.Fatalf("New(%d) = nil", n)
		}
		if l := lookAt(t, a); !l.same(look{}) {
			t.Errorf("New(%d) has %v", n, l)
		}
		noTake(t, a, n+1, api.ErrFull)
		for base := range n {
			noGive(t, a, base)
			noWrite(t, a, base, 0, api.ErrNone)
		}
		for base := range n {
			wantTake(t, a, 1, base)
		}
		noTake(t, a, 1, api.ErrFull)
		wantUsed(t, a, n)
	}
}

// P15.1: an area of below 0 words is one of 0.
func TestNewBelow(t *testing.T) {
	for _, n := range []int{0, -1, -2, -5, -1 << 32, math.MinInt + 1, math.MinInt} {
		a := New(n)
		if a == nil {
			t.Fatalf("New(%d) = nil", n)
		}
		if l := lookAt(t, a); !l.same(look{}) {
			t.Errorf("New(%d) has %v", n, l)
		}
		for _, many := range []int{1, 2, 5, 1 << 32, math.MaxInt} {
			noTake(t, a, many, api.ErrFull)
		}
		for _, many := range []int{0, -1, n, math.MinInt} {
			noTake(t, a, many, api.ErrArg)
		}
		for _, base := range append([]int{-1, 0, 1, n}, extremes...) {
			noGive(t, a, base)
			noWrite(t, a, base, 0, api.ErrNone)
			wantNone(t, a, base)
		}
	}
}

// P15.1: each area has words of its own.
func TestOwn(t *testing.T) {
	a, b := New(6), New(6)
	wantTake(t, a, 4, 0)
	unchanged(t, b, func() { fill(t, a, 0) })
	wantTake(t, b, 3, 0)
	unchanged(t, a, func() { fill(t, b, 0) })
	wantTake(t, b, 3, 3)
	noTake(t, a, 3, api.ErrFull)
	unchanged(t, b, func() { wantGive(t, a, 0) })
	unchanged(t, a, func() { wantGive(t, b, 3) })
	wantUsed(t, a, 0)
	wantUsed(t, b, 3)
}

// P15.1, R6: Take of less than 1 is ErrArg, where there are words, where none is left, and where there were never any.
func TestTakeNone(t *testing.T) {
	for _, a := range []*Area{New(0), New(-1), New(1), New(20), holed(t), taken(t, 5, 5), taken(t, 1, 1)} {
		for _, n := range []int{0, -1, -2, -20, -1 << 32, math.MinInt + 1, math.MinInt} {
			noTake(t, a, n, api.ErrArg)
		}
	}
}

// P15.1: all there is, at once and by parts, and one more.
func TestTakeAll(t *testing.T) {
	for _, n := range []int{1, 2, 3, 20} {
		a := New(n)
		for _, more := range []int{n + 1, n + 2, 2*n + 1, 1 << 32, math.MaxInt - 1, math.MaxInt} {
			noTake(t, a, more, api.ErrFull)
		}
		wantTake(t, a, n, 0)
		for _, more := range []int{1, 2, n, n + 1, math.MaxInt - n, math.MaxInt} {
			noTake(t, a, more, api.ErrFull)
		}
	}
	a := New(20)
	wantTake(t, a, 1, 0)
	noTake(t, a, 20, api.ErrFull)
	wantTake(t, a, 12, 1)
	noTake(t, a, 8, api.ErrFull)
	noTake(t, a, math.MaxInt-12, api.ErrFull)
	wantTake(t, a, 7, 13)
	noTake(t, a, 1, api.ErrFull)
	wantUsed(t, a, 20)
}

// P15.1: a room that fits into a hole just so, and one that is a word too long for it.
func TestHoleJustSo(t *testing.T) {
	a := taken(t, 12, 2, 3, 2, 5)
	wantGive(t, a, 2)
	noTake(t, a, 4, api.ErrFull)
	wantTake(t, a, 3, 2)
	noTake(t, a, 1, api.ErrFull)
	wantGive(t, a, 2)
	wantTake(t, a, 2, 2)
	noTake(t, a, 2, api.ErrFull)
	wantTake(t, a, 1, 4)
	noTake(t, a, 1, api.ErrFull)
	b := taken(t, 20, 2, 3, 2)
	wantGive(t, b, 2)
	wantTake(t, b, 4, 7)
	wantTake(t, b, 3, 2)
	wantTake(t, b, 1, 11)
}

// P15.1: a hole at the very beginning, of one word.
func TestHoleAtFirst(t *testing.T) {
	a := taken(t, 3, 1, 1, 1)
	wantGive(t, a, 0)
	noTake(t, a, 2, api.ErrFull)
	wantTake(t, a, 1, 0)
	noTake(t, a, 1, api.ErrFull)
}

// P15.1: the first hole that does, be it the first one, a later one, behind the last room, or at the very end.
func TestWhichHole(t *testing.T) {
	for n, base := range map[int]int{1: 2, 2: 2, 3: 2, 4: 16} {
		wantTake(t, holed(t), n, base)
	}
	for _, n := range []int{5, 6, 12, 20, math.MaxInt} {
		noTake(t, holed(t), n, api.ErrFull)
	}
	a := holed(t)
	wantTake(t, a, 1, 2)
	wantTake(t, a, 3, 6)
	wantTake(t, a, 3, 16)
	wantTake(t, a, 2, 3)
	wantTake(t, a, 2, 12)
	noTake(t, a, 2, api.ErrFull)
	wantTake(t, a, 1, 19)
	noTake(t, a, 1, api.ErrFull)
}

// P15.1: a small hole is passed by, and is found again by what fits.
func TestSecondHole(t *testing.T) {
	a := taken(t, 10, 1, 2, 1, 3, 3)
	wantGive(t, a, 1)
	wantGive(t, a, 4)
	wantTake(t, a, 3, 4)
	wantTake(t, a, 2, 1)
	noTake(t, a, 1, api.ErrFull)
}

// P15.1: behind the last room there is place to the very end, and no further.
func TestBehindLast(t *testing.T) {
	a := taken(t, 10, 4)
	noTake(t, a, 7, api.ErrFull)
	wantTake(t, a, 6, 4)
	wantGive(t, a, 4)
	wantTake(t, a, 5, 4)
	noTake(t, a, 2, api.ErrFull)
	wantTake(t, a, 1, 9)
	wantGive(t, a, 9)
	wantTake(t, a, 1, 9)
	noTake(t, a, 1, api.ErrFull)
}

// orders calls with each order of the numbers below n.
func orders(n int, call func([]int)) {
	var put func([]int)
	put = func(l []int) {
		if len(l) == n {
			call(l)
			return
		}
		for x := range n {
			if !slices.Contains(l, x) {
				put(append(slices.Clone(l), x))
			}
		}
	}
	put(nil)
}

// P15.1: rooms apart from each other given back in any order: the least base that does is taken.
func TestGivenApart(t *testing.T) {
	bases := []int{0, 3, 6, 10}
	orders(4, func(l []int) {
		a := taken(t, 13, 2, 1, 2, 1, 3, 1, 2, 1)
		for _, x := range l {
			wantGive(t, a, bases[x])
		}
		wantTake(t, a, 3, 6)
		noTake(t, a, 3, api.ErrFull)
		wantTake(t, a, 2, 0)
		wantTake(t, a, 1, 3)
		wantTake(t, a, 2, 10)
		wantTake(t, a, 1, 4)
		noTake(t, a, 1, api.ErrFull)
	})
}

// P15.1: rooms side by side given back in any order are one hole.
func TestGivenBeside(t *testing.T) {
	bases := []int{0, 3, 4, 6, 8}
	orders(5, func(l []int) {
		a := taken(t, 9, 3, 1, 2, 2, 1)
		for _, x := range l {
			noTake(t, a, 9, api.ErrFull)
			wantGive(t, a, bases[x])
		}
		wantUsed(t, a, 0)
		wantTake(t, a, 9, 0)
		noTake(t, a, 1, api.ErrFull)
	})
}

// P15.1: two holes that touch are one: what is longer than each fits.
func TestHolesJoined(t *testing.T) {
	for _, l := range [][]int{{2, 5}, {5, 2}} {
		a := taken(t, 12, 2, 3, 4, 3)
		wantGive(t, a, l[0])
		noTake(t, a, 5, api.ErrFull)
		wantGive(t, a, l[1])
		noTake(t, a, 8, api.ErrFull)
		wantTake(t, a, 7, 2)
		noTake(t, a, 1, api.ErrFull)
	}
	a := taken(t, 12, 2, 3, 4, 3)
	wantGive(t, a, 0)
	wantGive(t, a, 5)
	noTake(t, a, 5, api.ErrFull)
	wantGive(t, a, 2)
	noTake(t, a, 10, api.ErrFull)
	wantTake(t, a, 9, 0)
	noTake(t, a, 1, api.ErrFull)
	b := taken(t, 12, 2, 3)
	wantGive(t, b, 2)
	wantTake(t, b, 10, 2)
	wantGive(t, b, 0)
	wantGive(t, b, 2)
	wantTake(t, b, 12, 0)
}

// P15.1: holes with a room between them stay two.
func TestHolesParted(t *testing.T) {
	a := taken(t, 7, 3, 1, 3)
	wantGive(t, a, 0)
	wantGive(t, a, 4)
	for _, n := range []int{4, 5, 6, 7} {
		noTake(t, a, n, api.ErrFull)
	}
	wantTake(t, a, 3, 0)
	wantTake(t, a, 3, 4)
}

// P15.1: a room has noughts when it is taken, also where elder words stood, wholly or in part.
func TestNoughts(t *testing.T) {
	for size := 1; size <= 9; size++ {
		a := taken(t, 9, 3, 2, 4)
		for _, base := range []int{0, 3, 5} {
			wantGive(t, a, base)
		}
		for base := 0; base+size <= 9; base += size {
			wantTake(t, a, size, base)
			for off := range size {
				wantRead(t, a, base, off, 0)
			}
			fill(t, a, base)
		}
	}
	a := taken(t, 9, 3, 3, 3)
	for range 5 {
		wantGive(t, a, 3)
		wantTake(t, a, 3, 3)
		fill(t, a, 3)
		wantGive(t, a, 3)
		wantTake(t, a, 1, 3)
		wantTake(t, a, 2, 4)
		fill(t, a, 3)
		fill(t, a, 4)
		wantGive(t, a, 4)
		wantGive(t, a, 3)
		wantTake(t, a, 2, 3)
		wantTake(t, a, 1, 5)
		wantGive(t, a, 5)
		wantGive(t, a, 3)
		wantTake(t, a, 3, 3)
		fill(t, a, 3)
	}
}

// P15.1: Give of a room's base: true, once.
func TestGive(t *testing.T) {
	for _, base := range []int{0, 5, 9, 14} {
		a := holed(t)
		wantGive(t, a, base)
		noGive(t, a, base)
		noGive(t, a, base)
		for _, other := range []int{0, 5, 9, 14} {
			if other != base {
				wantGive(t, a, other)
			}
			noGive(t, a, other)
		}
		wantUsed(t, a, 0)
		wantTake(t, a, 20, 0)
	}
}

// P15.1: Give of what is no room's base: within a room, free, below 0, at the end, past it.
func TestGiveNone(t *testing.T) {
	a := holed(t)
	for _, base := range slices.Concat(holes, outside) {
		noGive(t, a, base)
	}
	wantTake(t, a, 3, 2)
	wantTake(t, a, 3, 6)
	full := taken(t, 20, 20)
	for base := 1; base < 20; base++ {
		noGive(t, full, base)
	}
	for _, base := range outside {
		noGive(t, full, base)
	}
}

// P15.1: a base that was a room's, and is now within another or free, is none.
func TestElderBase(t *testing.T) {
	a := taken(t, 6, 2, 2, 2)
	for _, base := range []int{0, 2, 4} {
		wantGive(t, a, base)
	}
	wantTake(t, a, 3, 0)
	wantTake(t, a, 2, 3)
	for _, base := range []int{1, 2, 4, 5} {
		noGive(t, a, base)
		noWrite(t, a, base, 0, api.ErrNone)
		wantNone(t, a, base)
	}
	wantUsed(t, a, 5)
}

// P15.1: Read and Write of each word of each room: that word is changed, no other one.
func TestWords(t *testing.T) {
	a := holed(t)
	for base, size := range map[int]int{0: 2, 5: 1, 9: 3, 14: 2} {
		wantSize(t, a, base, size)
		for off := range size {
			wantRead(t, a, base, off, api.Word(base<<20+off+1))
			wantWrite(t, a, base, off, 77)
			wantRead(t, a, base, off, 77)
			wantWrite(t, a, base, off, 0)
			wantRead(t, a, base, off, 0)
			wantWrite(t, a, base, off, api.Word(base+off))
		}
	}
	b := New(20)
	wantTake(t, b, 20, 0)
	for off := range 20 {
		wantRead(t, b, 0, off, 0)
		wantWrite(t, b, 0, off, api.Mask-api.Word(off))
	}
	for off := range 20 {
		wantRead(t, b, 0, off, api.Mask-api.Word(off))
	}
}

// P15.1: an offset that is not in the room is ErrBound: one past it, where the next room stands or none does, below 0, the ends of int.
func TestBound(t *testing.T) {
	a := holed(t)
	full := taken(t, 6, 1, 2, 3)
	for base, size := range map[int]int{0: 2, 5: 1, 9: 3, 14: 2} {
		for _, off := range append([]int{size, size + 1, 19, 20, -1, -2, -base, -base - 1}, extremes...) {
			if off >= 0 && off < size {
				continue
			}
			noRead(t, a, base, off, api.ErrBound)
			noWrite(t, a, base, off, api.ErrBound)
		}
	}
	for base, size := range map[int]int{0: 1, 1: 2, 3: 3} {
		for _, off := range append([]int{size, size + 1, -1, -2}, extremes...) {
			noRead(t, full, base, off, api.ErrBound)
			noWrite(t, full, base, off, api.ErrBound)
		}
	}
}

// P15.1, R6: a base where no room begins is ErrNone, whatever the offset: within a room, free, below 0, past the end.
func TestReachNone(t *testing.T) {
	a := holed(t)
	for _, base := range slices.Concat(holes, outside) {
		for _, off := range append([]int{-base, -1, 0, 1, 2, 19, 20}, extremes...) {
			noRead(t, a, base, off, api.ErrNone)
			noWrite(t, a, base, off, api.ErrNone)
		}
	}
	wantGive(t, a, 9)
	for off := range 4 {
		noRead(t, a, 9, off, api.ErrNone)
		noWrite(t, a, 9, off, api.ErrNone)
	}
}

// P15.1: of a word its lowest 36 bits are kept.
func TestCut(t *testing.T) {
	a := taken(t, 5, 1, 3, 1)
	for bit := range 64 {
		w := api.Word(1) << bit
		wantWrite(t, a, 1, 1, w)
		wantRead(t, a, 1, 1, []api.Word{w, 0}[bit/36%2])
		wantWrite(t, a, 1, 1, w+7)
		wantWrite(t, a, 1, 2, ^w)
		wantRead(t, a, 1, 2, ^w&0xF_FFFF_FFFF)
	}
	for w, want := range map[api.Word]api.Word{0: 0, 1: 1, api.Mask: api.Mask, api.Mask + 1: 0, api.Mask + 6: 5, math.MaxUint64: api.Mask} {
		wantWrite(t, a, 4, 0, w)
		wantRead(t, a, 4, 0, want)
	}
}

// P15.1: Size is of a room by its base, and 0 of what is none.
func TestSize(t *testing.T) {
	a := holed(t)
	for base, size := range map[int]int{0: 2, 5: 1, 9: 3, 14: 2} {
		wantSize(t, a, base, size)
	}
	for _, base := range slices.Concat(holes, outside) {
		wantSize(t, a, base, 0)
	}
	wantGive(t, a, 9)
	wantSize(t, a, 9, 0)
	wantTake(t, a, 8, 6)
	wantSize(t, a, 6, 8)
	wantSize(t, a, 9, 0)
	wantSize(t, a, 14, 2)
}

// P15.1: Used goes up by each Take and down by each Give, and by nothing else.
func TestUsed(t *testing.T) {
	a, used := New(20), 0
	wantUsed(t, a, 0)
	for _, n := range []int{1, 5, 2, 7, 3} {
		a.Take(n)
		used += n
		wantUsed(t, a, used)
		a.Take(0)
		a.Take(20)
		a.Give(used)
		a.Give(-1)
		a.Write(0, 0, 9)
		a.Write(0, 1, 9)
		a.Read(used, 0)
		a.Size(0)
		wantUsed(t, a, used)
	}
	for _, room := range []struct{ base, size int }{{6, 2}, {0, 1}, {15, 3}, {1, 5}, {8, 7}} {
		a.Give(room.base)
		used -= room.size
		wantUsed(t, a, used)
		a.Give(room.base)
		wantUsed(t, a, used)
	}
	wantUsed(t, a, 0)
}

// R1, P15.1: areas and rooms of any length, to the end of int: nothing goes round, and words are kept at any offset.
func TestGreat(t *testing.T) {
	for _, n := range []int{math.MaxInt, math.MaxInt - 1, 1 << 62, 1 << 40} {
		a := New(n)
		wantUsed(t, a, 0)
		if b, e := a.Take(n); b != 0 || e != api.OK {
			t.Fatalf("Take(%d) = %d, %d", n, b, e)
		}
		wantUsed(t, a, n)
		wantSize(t, a, 0, n)
		for _, off := range []int{0, 1, n / 2, n - 2, n - 1} {
			wantRead(t, a, 0, off, 0)
			if e := a.Write(0, off, api.Word(off)); e != api.OK {
				t.Errorf("Write(0, %d) = %d", off, e)
			}
			wantRead(t, a, 0, off, api.Word(off)&api.Mask)
		}
		for _, off := range []int{n, -1, -n, math.MinInt, math.MaxInt} {
			noRead(t, a, 0, off, api.ErrBound)
		}
		for _, more := range []int{1, n, math.MaxInt} {
			if b, e := a.Take(more); b != 0 || e != api.ErrFull {
				t.Errorf("Take(%d) = %d, %d", more, b, e)
			}
		}
		if !a.Give(0) || a.Used() != 0 {
			t.Errorf("given back, %d are used", a.Used())
		}
	}
}

// R1, P15.1: rooms at the end of int, and holes there.
func TestGreatBases(t *testing.T) {
	a := New(math.MaxInt)
	take := func(n, base int) {
		t.Helper()
		if b, e := a.Take(n); b != base || e != api.OK {
			t.Errorf("Take(%d) = %d, %d, want %d", n, b, e, base)
		}
	}
	take(2, 0)
	take(math.MaxInt-5, 2)
	take(3, math.MaxInt-3)
	if b, e := a.Take(1); b != 0 || e != api.ErrFull {
		t.Errorf("Take(1) = %d, %d", b, e)
	}
	a.Write(math.MaxInt-3, 2, 9)
	wantRead(t, a, math.MaxInt-3, 2, 9)
	noRead(t, a, math.MaxInt-3, 3, api.ErrBound)
	noRead(t, a, math.MaxInt-2, 0, api.ErrNone)
	if !a.Give(math.MaxInt-3) || !a.Give(2) || a.Give(2) {
		t.Error("rooms at the end are not given back")
	}
	wantUsed(t, a, 2)
	if b, e := a.Take(math.MaxInt - 1); b != 0 || e != api.ErrFull {
		t.Errorf("Take = %d, %d", b, e)
	}
	take(math.MaxInt-3, 2)
	take(1, math.MaxInt-1)
	wantRead(t, a, math.MaxInt-1, 0, 0)
	wantUsed(t, a, math.MaxInt)
}

// R1, P15.1: many rooms.
func TestMany(t *testing.T) {
	const many = 100000
	a := New(2 * many)
	for n := range many {
		if b, e := a.Take(2); b != 2*n || e != api.OK {
			t.Fatalf("Take(2) = %d, %d, want %d", b, e, 2*n)
		}
		a.Write(2*n, 1, api.Word(n))
	}
	wantUsed(t, a, 2*many)
	for n := 0; n < many; n += 2 {
		if !a.Give(2 * n) {
			t.Fatalf("Give(%d) = false", 2*n)
		}
	}
	wantUsed(t, a, many)
	if b, e := a.Take(3); b != 0 || e != api.ErrFull {
		t.Errorf("Take(3) = %d, %d", b, e)
	}
	for n := 1; n < many; n += 2 {
		wantRead(t, a, 2*n, 1, api.Word(n))
		if !a.Give(2 * n) {
			t.Fatalf("Give(%d) = false", 2*n)
		}
	}
	if b, e := a.Take(2 * many); b != 0 || e != api.OK {
		t.Errorf("Take of all = %d, %d", b, e)
	}
}

// R2: with an error each other answer is nought, wherever the last room and its words are.
func TestNoughtBesideError(t *testing.T) {
	a := taken(t, 9, 4, 5)
	for _, n := range []int{0, -1, 1, 9, math.MinInt, math.MaxInt} {
		if b, e := a.Take(n); b != 0 || e == api.OK {
			t.Errorf("Take(%d) = %d, %d", n, b, e)
		}
	}
	for _, base := range []int{-1, 0, 1, 4, 5, 9} {
		for _, off := range []int{-1, 5, 6, math.MinInt, math.MaxInt} {
			if w, e := a.Read(base, off); w != 0 || e == api.OK {
				t.Errorf("Read(%d, %d) = %d, %d", base, off, w, e)
			}
		}
	}
}

// R7: a nil area answers ErrArg and noughts, whatever it is asked.
func TestNil(t *testing.T) {
	var a *Area
	for _, n := range append([]int{-1, 0, 1, 5}, extremes...) {
		if b, e := a.Take(n); b != 0 || e != api.ErrArg {
			t.Errorf("Take(%d) = %d, %d", n, b, e)
		}
		if a.Give(n) {
			t.Errorf("Give(%d) = true", n)
		}
		for _, off := range append([]int{-1, 0, 1}, extremes...) {
			noRead(t, a, n, off, api.ErrArg)
			if e := a.Write(n, off, 5); e != api.ErrArg {
				t.Errorf("Write(%d, %d, 5) = %d", n, off, e)
			}
		}
		wantSize(t, a, n, 0)
		wantUsed(t, a, 0)
	}
}

// R1: an area that New did not make is one of no words.
func TestNotByNew(t *testing.T) {
	a := &Area{}
	for _, n := range []int{1, 2, math.MaxInt} {
		noTake(t, a, n, api.ErrFull)
	}
	for _, n := range []int{0, -1, math.MinInt} {
		noTake(t, a, n, api.ErrArg)
	}
	for _, base := range append([]int{-1, 0, 1}, extremes...) {
		noGive(t, a, base)
		noWrite(t, a, base, 0, api.ErrNone)
		wantNone(t, a, base)
	}
	wantUsed(t, a, 0)
}
