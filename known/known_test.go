package known

import (
	"math"
	"slices"
	"testing"

	"concentric/api"
)

// extremes are numbers that no call may stumble over.
var extremes = []int{math.MinInt, math.MinInt + 1, -1 << 32, 1 << 32, math.MaxInt - 1, math.MaxInt}

// noSegs are numbers that no segment has, whatever is known.
var noSegs = append([]int{-2, -1, 0, api.MaxSeg + 1, api.MaxSeg + 2}, extremes...)

// noRings are numbers that no ring has.
var noRings = append([]int{-2, -1, api.Rings, api.Rings + 1}, extremes...)

// noUIDs are numbers that no segment of the hierarchy has.
var noUIDs = []int{0, -1, -2, -7, -1 << 32, math.MinInt + 1, math.MinInt}

// row is what is known of one number.
type row struct {
	uid  int
	is   bool
	uses [api.Rings]int
}

// look is all that a table tells: a call that is refused must leave it as it was.
type look struct {
	rows [api.MaxSeg + 1]row
	all  []int
}

// lookAt asks all there is to ask, and holds the answers against each other.
func lookAt(t *testing.T, k *Known) look {
	t.Helper()
	l := look{all: k.All()}
	var all []int
	for seg := range l.rows {
		r := &l.rows[seg]
		r.uid, r.is = k.UID(seg)
		for ring := range r.uses {
			r.uses[ring] = k.Count(seg, ring)
		}
		if !r.is {
			if *r != (row{}) {
				t.Errorf("number %d is not known, and has %+v", seg, *r)
			}
			continue
		}
		all = append(all, seg)
		if n, ok := k.Number(r.uid); n != seg || !ok {
			t.Errorf("number %d has uid %d, which has number %d, %v", seg, r.uid, n, ok)
		}
		if r.uses == [api.Rings]int{} || slices.Min(r.uses[:]) < 0 {
			t.Errorf("number %d is known with uses %v", seg, r.uses)
		}
	}
	if !slices.Equal(l.all, all) {
		t.Errorf("All() = %v, want %v", l.all, all)
	}
	return l
}

func (l look) same(m look) bool { return l.rows == m.rows && slices.Equal(l.all, m.all) }

// unchanged calls and tells if a table looks otherwise afterwards.
func unchanged(t *testing.T, k *Known, call func()) {
	t.Helper()
	before := lookAt(t, k)
	call()
	if after := lookAt(t, k); !before.same(after) {
		t.Errorf("was %v, is %v", before, after)
	}
}

func wantAdd(t *testing.T, k *Known, uid, ring, seg int, is bool) {
	t.Helper()
	if n, anew, e := k.Add(uid, ring); n != seg || anew != is || e != api.OK {
		t.Errorf("Add(%d, %d) = %d, %v, %d, want %d, %v", uid, ring, n, anew, e, seg, is)
	}
}

// noAdd wants an error, nought beside it, and nothing changed.
func noAdd(t *testing.T, k *Known, uid, ring int, want api.Errno) {
	t.Helper()
	unchanged(t, k, func() {
		if n, anew, e := k.Add(uid, ring); n != 0 || anew || e != want {
			t.Errorf("Add(%d, %d) = %d, %v, %d, want error %d", uid, ring, n, anew, e, want)
		}
	})
}

func wantDrop(t *testing.T, k *Known, seg, ring int, last bool) {
	t.Helper()
	if is, e := k.Drop(seg, ring); is != last || e != api.OK {
		t.Errorf("Drop(%d, %d) = %v, %d, want %v", seg, ring, is, e, last)
	}
}

// noDrop wants an error, false beside it, and nothing changed.
func noDrop(t *testing.T, k *Known, seg, ring int, want api.Errno) {
	t.Helper()
	unchanged(t, k, func() {
		if is, e := k.Drop(seg, ring); is || e != want {
			t.Errorf("Drop(%d, %d) = %v, %d, want error %d", seg, ring, is, e, want)
		}
	})
}

func wantForget(t *testing.T, k *Known, seg int) {
	t.Helper()
	if !k.Forget(seg) {
		t.Errorf("Forget(%d) = false", seg)
	}
	noForget(t, k, seg)
}

// noForget wants false, and nothing changed.
func noForget(t *testing.T, k *Known, seg int) {
	t.Helper()
	unchanged(t, k, func() {
		if k.Forget(seg) {
			t.Errorf("Forget(%d) = true", seg)
		}
	})
}

// wantSeg wants a number to be known, as this uid and with these uses by ring, those of the rings behind them none.
func wantSeg(t *testing.T, k *Known, seg, uid int, uses ...int) {
	t.Helper()
	if u, ok := k.UID(seg); u != uid || !ok {
		t.Errorf("UID(%d) = %d, %v, want %d", seg, u, ok, uid)
	}
	if n, ok := k.Number(uid); n != seg || !ok {
		t.Errorf("Number(%d) = %d, %v, want %d", uid, n, ok, seg)
	}
	for ring := range api.Rings {
		want := 0
		if ring < len(uses) {
			want = uses[ring]
		}
		if n := k.Count(seg, ring); n != want {
			t.Errorf("Count(%d, %d) = %d, want %d", seg, ring, n, want)
		}
	}
}

// noSeg wants a number not to be known.
func noSeg(t *testing.T, k *Known, seg int) {
	t.Helper()
	if u, ok := k.UID(seg); u != 0 || ok {
		t.Errorf("UID(%d) = %d, %v", seg, u, ok)
	}
	for ring := -1; ring <= api.Rings; ring++ {
		if n := k.Count(seg, ring); n != 0 {
			t.Errorf("Count(%d, %d) = %d", seg, ring, n)
		}
	}
	if slices.Contains(k.All(), seg) {
		t.Errorf("All() = %v, with %d", k.All(), seg)
	}
}

// noUID wants a segment to have no number.
func noUID(t *testing.T, k *Known, uid int) {
	t.Helper()
	if n, ok := k.Number(uid); n != 0 || ok {
		t.Errorf("Number(%d) = %d, %v", uid, n, ok)
	}
}

func wantAll(t *testing.T, k *Known, want ...int) {
	t.Helper()
	if l := k.All(); !slices.Equal(l, want) {
		t.Errorf("All() = %v, want %v", l, want)
	}
}

// filled is a table with a use in ring 4 of uid 101 at number 1, 102 at 2 and so on, as many as asked.
func filled(t *testing.T, many int) *Known {
	t.Helper()
	k := New()
	for n := 1; n <= many; n++ {
		wantAdd(t, k, 100+n, 4, n, true)
	}
	return k
}

// few is a table with numbers that are known and free, by turns.
func few(t *testing.T) *Known {
	t.Helper()
	k := filled(t, 5)
	wantForget(t, k, 2)
	wantForget(t, k, 4)
	wantAdd(t, k, 105, 0, 5, false)
	wantAdd(t, k, 105, 7, 5, false)
	return k
}

// P12.1: the chapter's example.
func TestExample(t *testing.T) {
	k := New()
	wantAdd(t, k, 7, 4, 1, true)
	wantAdd(t, k, 7, 4, 1, false)
	wantDrop(t, k, 1, 4, false)
	wantDrop(t, k, 1, 4, true)
}

// P12.1: of a new table nothing is known, and each is one of its own.
func TestNew(t *testing.T) {
	k := New()
	if k == nil {
		t.Fatal("New() = nil")
	}
	wantAll(t, k)
	for seg := range api.MaxSeg + 1 {
		noSeg(t, k, seg)
		noForget(t, k, seg)
		noDrop(t, k, seg, 0, api.ErrNone)
	}
	noUID(t, k, 1)
	other := New()
	wantAdd(t, k, 7, 4, 1, true)
	wantAll(t, other)
	noUID(t, other, 7)
	wantAdd(t, other, 9, 1, 1, true)
	wantAdd(t, other, 7, 0, 2, true)
	wantForget(t, other, 1)
	wantSeg(t, k, 1, 7, 0, 0, 0, 0, 1)
	wantSeg(t, other, 2, 7, 1)
}

// P12.1: Add of what is not known takes the least free number, with one use in that ring alone.
func TestAddNew(t *testing.T) {
	k := New()
	wantAdd(t, k, 30, 2, 1, true)
	wantAdd(t, k, 10, 0, 2, true)
	wantAdd(t, k, 20, 7, 3, true)
	wantSeg(t, k, 1, 30, 0, 0, 1)
	wantSeg(t, k, 2, 10, 1)
	wantSeg(t, k, 3, 20, 0, 0, 0, 0, 0, 0, 0, 1)
	wantAll(t, k, 1, 2, 3)
	for _, uid := range []int{1, 2, 3, 0, 31} {
		noUID(t, k, uid)
	}
}

// P12.1: Add of what is known answers its number, and one more use in that ring alone.
func TestAddAgain(t *testing.T) {
	k := New()
	wantAdd(t, k, 5, 1, 1, true)
	wantAdd(t, k, 6, 1, 2, true)
	for n := range 10 {
		wantAdd(t, k, 6, 3, 2, false)
		wantSeg(t, k, 2, 6, 0, 1, 0, n+1)
		wantSeg(t, k, 1, 5, 0, 1)
	}
	wantAdd(t, k, 6, 1, 2, false)
	wantAdd(t, k, 5, 0, 1, false)
	wantAdd(t, k, 5, 7, 1, false)
	wantSeg(t, k, 1, 5, 1, 1, 0, 0, 0, 0, 0, 1)
	wantSeg(t, k, 2, 6, 0, 2, 0, 10)
	wantAll(t, k, 1, 2)
}

// P12.1: each ring has uses of its own, to both ends of the rings.
func TestUsesByRing(t *testing.T) {
	k := New()
	var uses [api.Rings]int
	for ring := range api.Rings {
		for n := 0; n <= ring; n++ {
			wantAdd(t, k, 7, ring, 1, ring+n == 0)
			uses[ring]++
			wantSeg(t, k, 1, 7, uses[:]...)
		}
	}
	for ring := range api.Rings {
		for uses[ring] > 0 {
			wantDrop(t, k, 1, ring, ring == 7 && uses[7] == 1)
			if uses[ring]--; uses != [api.Rings]int{} {
				wantSeg(t, k, 1, 7, uses[:]...)
			}
		}
		noDrop(t, k, 1, ring, api.ErrNone)
	}
	noSeg(t, k, 1)
	noUID(t, k, 7)
}

// P12.1: uses are as many as are added, and as many are dropped.
func TestManyUses(t *testing.T) {
	k := New()
	const many = 70000
	for n := range many {
		wantAdd(t, k, 7, 4, 1, n == 0)
	}
	wantAdd(t, k, 7, 3, 1, false)
	wantSeg(t, k, 1, 7, 0, 0, 0, 1, many)
	wantDrop(t, k, 1, 3, false)
	for n := range many {
		wantDrop(t, k, 1, 4, n == many-1)
	}
	wantAll(t, k)
}

// P12.1: uids of 1 and great ones are taken, those below 1 are ErrArg.
func TestUIDs(t *testing.T) {
	great := []int{1, 2, api.MaxSeg, api.MaxSeg + 1, 1 << 31, 1<<32 + 1, 1 << 36, math.MaxInt - 1, math.MaxInt}
	k := New()
	for n, uid := range great {
		wantAdd(t, k, uid, n%8, n+1, true)
	}
	for n, uid := range great {
		wantAdd(t, k, uid, n%8, n+1, false)
	}
	for _, k := range []*Known{k, New(), few(t), filled(t, api.MaxSeg)} {
		for _, uid := range noUIDs {
			for ring := range api.Rings {
				noAdd(t, k, uid, ring, api.ErrArg)
			}
			noUID(t, k, uid)
		}
	}
}

// P12.1, R6: rings of 0 and 7 are taken, others are ErrArg, whatever the uid, and when all numbers are taken, too.
func TestRings(t *testing.T) {
	k := New()
	wantAdd(t, k, 1, 0, 1, true)
	wantAdd(t, k, 1, 7, 1, false)
	for _, k := range []*Known{k, New(), few(t), filled(t, api.MaxSeg)} {
		for _, ring := range noRings {
			for _, uid := range append([]int{1, 99, 101, 105}, noUIDs...) {
				noAdd(t, k, uid, ring, api.ErrArg)
			}
		}
	}
}

// P12.1: numbers are 1 to MaxSeg; one more is ErrFull, but not of one that is known.
func TestFull(t *testing.T) {
	k := filled(t, api.MaxSeg)
	if l := k.All(); len(l) != api.MaxSeg || l[0] != 1 || l[api.MaxSeg-1] != api.MaxSeg {
		t.Errorf("All() = %v", l)
	}
	for _, uid := range []int{1, 63, 64, 100, 164, 1 << 40, math.MaxInt} {
		for ring := range api.Rings {
			noAdd(t, k, uid, ring, api.ErrFull)
		}
		noUID(t, k, uid)
	}
	for n := 1; n <= api.MaxSeg; n++ {
		wantAdd(t, k, 100+n, 4, n, false)
		wantAdd(t, k, 100+n, n%4, n, false)
	}
	noAdd(t, k, 1, 0, api.ErrFull)
	wantDrop(t, k, 20, 4, false)
	wantDrop(t, k, 20, 4, false)
	noAdd(t, k, 1, 0, api.ErrFull)
	wantDrop(t, k, 20, 0, true)
	wantAdd(t, k, 1, 0, 20, true)
	noAdd(t, k, 2, 0, api.ErrFull)
	noAdd(t, k, 120, 0, api.ErrFull)
}

// P12.1: each number can be the last one that is free, and is found.
func TestOneFree(t *testing.T) {
	for seg := 1; seg <= api.MaxSeg; seg++ {
		k := filled(t, api.MaxSeg)
		wantForget(t, k, seg)
		if l := k.All(); len(l) != api.MaxSeg-1 || slices.Contains(l, seg) {
			t.Errorf("All() behind Forget(%d) = %v", seg, l)
		}
		noUID(t, k, 100+seg)
		wantAdd(t, k, 9, 2, seg, true)
		noAdd(t, k, 100+seg, 2, api.ErrFull)
		wantSeg(t, k, seg, 9, 0, 0, 1)
	}
}

// P12.1: the least number is given again, behind a Drop and behind a Forget, in whatever order numbers were freed.
func TestLeastAgain(t *testing.T) {
	for _, free := range [][]int{{1}, {5}, {3, 1}, {1, 3}, {2, 3, 4}, {4, 3, 2}, {3, 5, 1}, {5, 4, 3, 2, 1}, {1, 2, 3, 4, 5}} {
		for _, byDrop := range []bool{true, false} {
			k := filled(t, 5)
			for _, seg := range free {
				if byDrop {
					wantDrop(t, k, seg, 4, true)
				} else {
					wantForget(t, k, seg)
				}
				noSeg(t, k, seg)
				noUID(t, k, 100+seg)
			}
			rising := slices.Sorted(slices.Values(free))
			for n, seg := range append(rising, 6, 7) {
				wantAdd(t, k, 200+n, 1, seg, true)
			}
			wantAll(t, k, 1, 2, 3, 4, 5, 6, 7)
		}
	}
}

// P12.1: the least free number is asked anew at each Add: one freed between two of them goes ahead of greater ones.
func TestLeastAtOnce(t *testing.T) {
	k := filled(t, 6)
	wantForget(t, k, 5)
	wantForget(t, k, 3)
	wantAdd(t, k, 1, 0, 3, true)
	wantDrop(t, k, 2, 4, true)
	wantAdd(t, k, 2, 0, 2, true)
	wantForget(t, k, 3)
	wantAdd(t, k, 101, 0, 1, false)
	wantAdd(t, k, 1, 0, 3, true)
	wantAdd(t, k, 3, 0, 5, true)
	wantAdd(t, k, 4, 0, 7, true)
}

// P12.1: Drop takes one use of its ring; the last of all rings, whichever it is, takes the number with it.
func TestDrop(t *testing.T) {
	k := New()
	for _, ring := range []int{4, 4, 4, 0, 7} {
		k.Add(9, ring)
	}
	wantAdd(t, k, 8, 4, 2, true)
	wantDrop(t, k, 1, 4, false)
	wantSeg(t, k, 1, 9, 1, 0, 0, 0, 2, 0, 0, 1)
	wantDrop(t, k, 1, 4, false)
	wantDrop(t, k, 1, 4, false)
	wantSeg(t, k, 1, 9, 1, 0, 0, 0, 0, 0, 0, 1)
	noDrop(t, k, 1, 4, api.ErrNone)
	wantDrop(t, k, 1, 7, false)
	wantSeg(t, k, 1, 9, 1)
	wantDrop(t, k, 1, 0, true)
	noSeg(t, k, 1)
	noUID(t, k, 9)
	wantSeg(t, k, 2, 8, 0, 0, 0, 0, 1)
	wantAll(t, k, 2)
	noDrop(t, k, 1, 0, api.ErrNone)
}

// P12.1: Drop of a number that is not known, and of one without a use in that ring, is ErrNone.
func TestDropNone(t *testing.T) {
	k := few(t)
	for _, seg := range append([]int{2, 4, 6, api.MaxSeg}, noSegs...) {
		for ring := range api.Rings {
			noDrop(t, k, seg, ring, api.ErrNone)
		}
	}
	for ring := range api.Rings {
		if ring != 4 {
			noDrop(t, k, 1, ring, api.ErrNone)
		}
		if ring%7 != 0 && ring != 4 {
			noDrop(t, k, 5, ring, api.ErrNone)
		}
	}
}

// P12.1, R6: Drop with a ring that is none is ErrArg, ahead of ErrNone.
func TestDropRings(t *testing.T) {
	for _, k := range []*Known{few(t), New()} {
		for _, ring := range noRings {
			for _, seg := range append([]int{1, 2, 5, 6, api.MaxSeg}, noSegs...) {
				noDrop(t, k, seg, ring, api.ErrArg)
			}
		}
	}
}

// P12.1: Forget takes a number with all its uses, in all rings; known anew, its uses begin at one.
func TestForget(t *testing.T) {
	k := filled(t, 3)
	for n := range 100 {
		wantAdd(t, k, 102, n%8, 2, false)
	}
	wantForget(t, k, 2)
	noSeg(t, k, 2)
	noUID(t, k, 102)
	wantAll(t, k, 1, 3)
	for ring := range api.Rings {
		noDrop(t, k, 2, ring, api.ErrNone)
	}
	wantAdd(t, k, 102, 6, 2, true)
	wantSeg(t, k, 2, 102, 0, 0, 0, 0, 0, 0, 1)
	wantDrop(t, k, 2, 6, true)
	wantAdd(t, k, 50, 1, 2, true)
	wantSeg(t, k, 2, 50, 0, 1)
	wantSeg(t, k, 1, 101, 0, 0, 0, 0, 1)
	wantSeg(t, k, 3, 103, 0, 0, 0, 0, 1)
}

// P12.1: what is known anew may have another number than it had.
func TestAnew(t *testing.T) {
	k := filled(t, 3)
	wantForget(t, k, 3)
	wantForget(t, k, 1)
	wantAdd(t, k, 103, 0, 1, true)
	wantAdd(t, k, 101, 0, 3, true)
	wantSeg(t, k, 1, 103, 1)
	wantSeg(t, k, 3, 101, 1)
}

// P12.1: Forget of a number that is not known is false, and changes nothing.
func TestForgetNone(t *testing.T) {
	for _, k := range []*Known{few(t), New()} {
		for _, seg := range append([]int{2, 4, 6, 7, api.MaxSeg}, noSegs...) {
			noForget(t, k, seg)
		}
	}
	k := filled(t, api.MaxSeg)
	for _, seg := range noSegs {
		noForget(t, k, seg)
	}
}

// P12.1: Count in each ring; 0 of a ring that is none and of a number that is not known.
func TestCount(t *testing.T) {
	k := few(t)
	wantSeg(t, k, 1, 101, 0, 0, 0, 0, 1)
	wantSeg(t, k, 5, 105, 1, 0, 0, 0, 1, 0, 0, 1)
	full := filled(t, api.MaxSeg)
	for _, k := range []*Known{k, full} {
		for _, ring := range noRings {
			for _, seg := range append([]int{1, 2, 5, 6}, noSegs...) {
				if n := k.Count(seg, ring); n != 0 {
					t.Errorf("Count(%d, %d) = %d", seg, ring, n)
				}
			}
		}
		for _, seg := range noSegs {
			noSeg(t, k, seg)
		}
	}
	noSeg(t, k, 2)
	noSeg(t, k, 6)
}

// P12.1: Number and UID of what is known, of what was, and of what never was.
func TestNumberAndUID(t *testing.T) {
	k := few(t)
	wantDrop(t, k, 1, 4, true)
	wantSeg(t, k, 3, 103, 0, 0, 0, 0, 1)
	wantSeg(t, k, 5, 105, 1, 0, 0, 0, 1, 0, 0, 1)
	for _, seg := range append([]int{1, 2, 4, 6, api.MaxSeg}, noSegs...) {
		noSeg(t, k, seg)
	}
	never := []int{1, 3, 5, 99, 106, -103, 1<<32 + 103, math.MaxInt}
	for _, uid := range slices.Concat([]int{101, 102, 104}, never, noUIDs) {
		noUID(t, k, uid)
	}
}

// P12.1, R5: All rises, whatever the order in which numbers came and went.
func TestAll(t *testing.T) {
	k := New()
	wantAll(t, k)
	for _, uid := range []int{900, 5, 77, 1, 300, 12} {
		k.Add(uid, uid%8)
	}
	wantAll(t, k, 1, 2, 3, 4, 5, 6)
	wantForget(t, k, 6)
	wantForget(t, k, 1)
	wantForget(t, k, 3)
	wantAll(t, k, 2, 4, 5)
	k.Add(40, 0)
	wantAll(t, k, 1, 2, 4, 5)
	for _, seg := range k.All() {
		wantForget(t, k, seg)
	}
	wantAll(t, k)
}

// R4: a list that All answered is new memory, spare room too, and no later call is seen in it.
func TestAllIsNew(t *testing.T) {
	k := few(t)
	first, again := k.All(), k.All()
	room := first[:cap(first)]
	for i := range room {
		room[i] = 77
	}
	wantAll(t, k, 1, 3, 5)
	k.Forget(1)
	k.Add(8, 0)
	k.Add(9, 0)
	k.Forget(5)
	if want := []int{1, 3, 5}; !slices.Equal(again, want) {
		t.Errorf("an answer changed later: %v, want %v", again, want)
	}
	wantAll(t, k, 1, 2, 3)
}

// R3: asking changes nothing, and is answered the same again.
func TestAsksChangeNothing(t *testing.T) {
	for _, k := range []*Known{New(), few(t), filled(t, api.MaxSeg)} {
		unchanged(t, k, func() {
			for _, n := range append([]int{1, 2, 5, 101, 105}, noSegs...) {
				k.Number(n)
				k.UID(n)
				for _, ring := range append([]int{0, 4, 7}, noRings...) {
					k.Count(n, ring)
				}
			}
			k.All()
		})
	}
}

// R3: calls that were refused take no number and no use from later ones.
func TestRefusedTakeNothing(t *testing.T) {
	k := New()
	for _, ring := range noRings {
		k.Add(7, ring)
		k.Drop(1, ring)
	}
	for _, uid := range noUIDs {
		k.Add(uid, 0)
	}
	for _, seg := range noSegs {
		k.Drop(seg, 0)
		k.Forget(seg)
	}
	wantAdd(t, k, 7, 0, 1, true)
	wantDrop(t, k, 1, 0, true)
	k.Drop(1, 0)
	wantAdd(t, k, 7, 0, 1, true)
	wantSeg(t, k, 1, 7, 1)
}

// R7: a nil table answers nought, ErrArg where an error is among the answers.
func TestNil(t *testing.T) {
	var k *Known
	for _, n := range append([]int{1, 7, api.MaxSeg}, noSegs...) {
		for _, ring := range append([]int{0, 4, 7}, noRings...) {
			noAdd(t, k, n, ring, api.ErrArg)
			noDrop(t, k, n, ring, api.ErrArg)
			if c := k.Count(n, ring); c != 0 {
				t.Errorf("Count(%d, %d) = %d", n, ring, c)
			}
		}
		noSeg(t, k, n)
		noUID(t, k, n)
		noForget(t, k, n)
	}
	wantAll(t, k)
}

// R1: a table that New did not make is one of which nothing is known.
func TestNotByNew(t *testing.T) {
	var k Known
	noDrop(t, &k, 1, 0, api.ErrNone)
	noForget(t, &k, 1)
	wantAll(t, &k)
	wantAdd(t, &k, 7, 4, 1, true)
	wantSeg(t, &k, 1, 7, 0, 0, 0, 0, 1)
}
