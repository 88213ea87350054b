package refer

import (
	"math"
	"slices"
	"strconv"
	"strings"
	"testing"

	"concentric/api"
)

// extremes are numbers that no call may stumble over.
var extremes = []int{math.MinInt, math.MinInt + 1, -1 << 32, 1 << 32, 1<<32 + 1, math.MaxInt - 1, math.MaxInt}

// noSegs are numbers that no segment has.
var noSegs = append([]int{-63, -2, -1, 0, api.MaxSeg + 1, api.MaxSeg + 2}, extremes...)

// noRings are numbers that no ring has.
var noRings = append([]int{-7, -2, -1, api.Rings, api.Rings + 1}, extremes...)

// longest has as many signs as a name may have.
var longest = strings.Repeat("n", api.MaxName)

// noNames are texts that no name is.
var noNames = []string{"", ">", "a>", ">a", "a>b", longest + "n", strings.Repeat(longest, 100), " ", "a b", "a\n", "\x00", "a\x00", "\x7f", "\x80", "\xff", "ä"}

// look is all that a table tells: a call that is refused must leave it as it was.
type look struct {
	names [api.Rings][api.MaxSeg + 1]string
	count int
}

// lookAt asks all there is to ask, and holds the answers against each other.
func lookAt(t *testing.T, x *Refer) look {
	t.Helper()
	l := look{count: x.Len()}
	all := 0
	for ring := range l.names {
		for seg := range l.names[ring] {
			of := x.Of(ring, seg)
			if !rises(of) {
				t.Errorf("Of(%d, %d) = %q: does not rise", ring, seg, of)
			}
			for _, name := range of {
				wantFind(t, x, ring, name, seg)
			}
			all += len(of)
			// No name has a blank in it.
			l.names[ring][seg] = strings.Join(of, " ")
		}
	}
	if all != l.count {
		t.Errorf("Len() = %d, where Of lists %d names", l.count, all)
	}
	return l
}

// rises tells if each text stands by bytes behind the one ahead of it.
func rises(l []string) bool {
	for i := 1; i < len(l); i++ {
		if l[i-1] >= l[i] {
			return false
		}
	}
	return true
}

// unchanged calls and tells if a table looks otherwise afterwards.
func unchanged(t *testing.T, x *Refer, call func()) {
	t.Helper()
	before := lookAt(t, x)
	call()
	if after := lookAt(t, x); before != after {
		t.Errorf("was %v, is %v", before, after)
	}
}

func wantBind(t *testing.T, x *Refer, ring int, name string, seg int) {
	t.Helper()
	if e := x.Bind(ring, name, seg); e != api.OK {
		t.Errorf("Bind(%d, %q, %d) = %d", ring, name, seg, e)
	}
	wantFind(t, x, ring, name, seg)
}

// noBind wants an error, and nothing changed.
func noBind(t *testing.T, x *Refer, ring int, name string, seg int, want api.Errno) {
	t.Helper()
	unchanged(t, x, func() {
		if e := x.Bind(ring, name, seg); e != want {
			t.Errorf("Bind(%d, %q, %d) = %d, want error %d", ring, name, seg, e, want)
		}
	})
}

func wantFind(t *testing.T, x *Refer, ring int, name string, seg int) {
	t.Helper()
	if n, ok := x.Find(ring, name); n != seg || !ok {
		t.Errorf("Find(%d, %q) = %d, %v, want %d", ring, name, n, ok, seg)
	}
}

// noFind wants a ring not to have a name.
func noFind(t *testing.T, x *Refer, ring int, name string) {
	t.Helper()
	if n, ok := x.Find(ring, name); n != 0 || ok {
		t.Errorf("Find(%d, %q) = %d, %v", ring, name, n, ok)
	}
}

func wantDrop(t *testing.T, x *Refer, ring int, name string, seg int) {
	t.Helper()
	if n, e := x.Drop(ring, name); n != seg || e != api.OK {
		t.Errorf("Drop(%d, %q) = %d, %d, want %d", ring, name, n, e, seg)
	}
	noFind(t, x, ring, name)
}

// noDrop wants an error, 0 beside it, and nothing changed.
func noDrop(t *testing.T, x *Refer, ring int, name string, want api.Errno) {
	t.Helper()
	unchanged(t, x, func() {
		if n, e := x.Drop(ring, name); n != 0 || e != want {
			t.Errorf("Drop(%d, %q) = %d, %d, want error %d", ring, name, n, e, want)
		}
	})
}

// wantForget wants so many names, all of them gone behind it, and those of other segments left.
func wantForget(t *testing.T, x *Refer, seg, many int) {
	t.Helper()
	want := lookAt(t, x)
	want.count -= many
	for ring := range want.names {
		want.names[ring][seg] = ""
	}
	if n := x.Forget(seg); n != many {
		t.Errorf("Forget(%d) = %d, want %d", seg, n, many)
	}
	if l := lookAt(t, x); l != want {
		t.Errorf("behind Forget(%d) it is %v, want %v", seg, l, want)
	}
	noForget(t, x, seg)
}

// noForget wants 0, and nothing changed.
func noForget(t *testing.T, x *Refer, seg int) {
	t.Helper()
	unchanged(t, x, func() {
		if n := x.Forget(seg); n != 0 {
			t.Errorf("Forget(%d) = %d", seg, n)
		}
	})
}

func wantOf(t *testing.T, x *Refer, ring, seg int, want ...string) {
	t.Helper()
	if l := x.Of(ring, seg); !slices.Equal(l, want) {
		t.Errorf("Of(%d, %d) = %q, want %q", ring, seg, l, want)
	}
}

func wantLen(t *testing.T, x *Refer, want int) {
	t.Helper()
	if n := x.Len(); n != want {
		t.Errorf("Len() = %d, want %d", n, want)
	}
}

// few is a table with names of several segments in several rings, and some that were dropped.
func few(t *testing.T) *Refer {
	t.Helper()
	x := New()
	wantBind(t, x, 4, "a", 1)
	wantBind(t, x, 4, "b", 1)
	wantBind(t, x, 4, "c", 2)
	wantBind(t, x, 3, "a", 2)
	wantBind(t, x, 0, longest, api.MaxSeg)
	wantBind(t, x, 7, "!", 1)
	wantBind(t, x, 4, "gone", 5)
	wantDrop(t, x, 4, "gone", 5)
	wantLen(t, x, 6)
	return x
}

// P13.1: the chapter's example.
func TestExample(t *testing.T) {
	x := New()
	wantBind(t, x, 4, "a", 1)
	noBind(t, x, 4, "a", 2, api.ErrThere)
}

// P13.1: a new table has no names, and each is one of its own.
func TestNew(t *testing.T) {
	x := New()
	if x == nil {
		t.Fatal("New() = nil")
	}
	wantLen(t, x, 0)
	for ring := range api.Rings {
		noFind(t, x, ring, "a")
		noDrop(t, x, ring, "a", api.ErrNone)
		for seg := range api.MaxSeg + 1 {
			wantOf(t, x, ring, seg)
		}
	}
	for seg := range api.MaxSeg + 1 {
		noForget(t, x, seg)
	}
	other := New()
	wantBind(t, x, 4, "a", 1)
	noFind(t, other, 4, "a")
	wantLen(t, other, 0)
	wantBind(t, other, 4, "a", 2)
	wantForget(t, other, 2, 1)
	wantFind(t, x, 4, "a", 1)
	wantLen(t, x, 1)
}

// P13.1: Bind of a name that its ring has not.
func TestBind(t *testing.T) {
	x := New()
	wantBind(t, x, 4, "a", 1)
	wantLen(t, x, 1)
	wantBind(t, x, 4, "b", 1)
	wantLen(t, x, 2)
	wantBind(t, x, 4, "c", 2)
	wantLen(t, x, 3)
	wantFind(t, x, 4, "a", 1)
	wantFind(t, x, 4, "b", 1)
	for _, name := range []string{"A", "aa", "a ", "d", "1"} {
		noFind(t, x, 4, name)
	}
	wantOf(t, x, 4, 1, "a", "b")
	wantOf(t, x, 4, 2, "c")
}

// P13.1: Bind of a name that its ring has of the same segment is OK, and nothing more: one Drop takes it.
func TestBindSame(t *testing.T) {
	x := few(t)
	for range 5 {
		unchanged(t, x, func() {
			wantBind(t, x, 4, "a", 1)
			wantBind(t, x, 0, longest, api.MaxSeg)
		})
	}
	wantDrop(t, x, 4, "a", 1)
	noDrop(t, x, 4, "a", api.ErrNone)
	wantLen(t, x, 5)
	wantForget(t, x, api.MaxSeg, 1)
	wantLen(t, x, 4)
}

// P13.1: Bind of a name that its ring has of another segment is ErrThere, and it stays that segment's.
func TestBindOther(t *testing.T) {
	x := few(t)
	for seg := 2; seg <= api.MaxSeg; seg++ {
		noBind(t, x, 4, "a", seg, api.ErrThere)
		wantFind(t, x, 4, "a", 1)
	}
	for seg := 1; seg < api.MaxSeg; seg++ {
		noBind(t, x, 0, longest, seg, api.ErrThere)
	}
	wantBind(t, x, 4, "a", 1)
	wantDrop(t, x, 4, "a", 1)
	wantBind(t, x, 4, "a", 2)
	noBind(t, x, 4, "a", 1, api.ErrThere)
}

// P13.1: each ring has its names for itself: the same name can be another segment's, or the same's, in each.
func TestRingsApart(t *testing.T) {
	x := New()
	for ring := range api.Rings {
		for other := ring; other < api.Rings; other++ {
			noFind(t, x, other, "a")
			noDrop(t, x, other, "a", api.ErrNone)
		}
		wantBind(t, x, ring, "a", 10+ring)
		wantBind(t, x, ring, "same", 1)
		wantLen(t, x, 2*ring+2)
	}
	for ring := range api.Rings {
		for other := range api.Rings {
			if other == ring {
				wantOf(t, x, other, 10+ring, "a")
				continue
			}
			noBind(t, x, other, "a", 10+ring, api.ErrThere)
			wantOf(t, x, other, 10+ring)
		}
		wantOf(t, x, ring, 1, "same")
	}
	wantDrop(t, x, 3, "a", 13)
	wantDrop(t, x, 3, "same", 1)
	for ring := range api.Rings {
		if ring == 3 {
			continue
		}
		wantFind(t, x, ring, "a", 10+ring)
		wantFind(t, x, ring, "same", 1)
	}
	wantForget(t, x, 1, 7)
}

// P13.1: rings of 0 and 7 and segments of 1 and MaxSeg are taken, each of them with each.
func TestEnds(t *testing.T) {
	x := New()
	for ring := range api.Rings {
		for seg := 1; seg <= api.MaxSeg; seg++ {
			wantBind(t, x, ring, "n"+strconv.Itoa(seg), seg)
		}
	}
	wantLen(t, x, api.Rings*api.MaxSeg)
	for ring := range api.Rings {
		for seg := 1; seg <= api.MaxSeg; seg++ {
			wantOf(t, x, ring, seg, "n"+strconv.Itoa(seg))
		}
	}
}

// P13.1, R6: a ring that is none, a segment that is none and both at once are ErrArg, ahead of ErrName and of ErrThere.
func TestBindArg(t *testing.T) {
	for _, x := range []*Refer{few(t), New()} {
		for _, name := range append([]string{"a", "free", longest}, noNames...) {
			for _, ring := range noRings {
				for _, seg := range []int{1, 2, api.MaxSeg, 0, -1, api.MaxSeg + 1, math.MinInt, math.MaxInt} {
					if e := x.Bind(ring, name, seg); e != api.ErrArg {
						t.Errorf("Bind(%d, %q, %d) = %d", ring, name, seg, e)
					}
				}
			}
			for _, seg := range noSegs {
				for ring := range api.Rings {
					if e := x.Bind(ring, name, seg); e != api.ErrArg {
						t.Errorf("Bind(%d, %q, %d) = %d", ring, name, seg, e)
					}
				}
			}
		}
	}
}

// R3: a Bind that is ErrArg changes nothing.
func TestBindArgChangesNothing(t *testing.T) {
	for _, x := range []*Refer{few(t), New()} {
		for _, name := range []string{"a", "free", ""} {
			for _, ring := range noRings {
				noBind(t, x, ring, name, 1, api.ErrArg)
				noFind(t, x, ring, name)
				wantOf(t, x, ring, 1)
			}
			for _, seg := range noSegs {
				noBind(t, x, 4, name, seg, api.ErrArg)
				noBind(t, x, 8, name, seg, api.ErrArg)
				wantOf(t, x, 4, seg)
			}
		}
		noFind(t, x, 4, "free")
	}
}

// P13.1: a text that is no name is ErrName, and is not bound: again, of another segment, it is not ErrThere.
func TestBindName(t *testing.T) {
	for _, x := range []*Refer{few(t), New()} {
		for _, name := range noNames {
			for _, ring := range []int{0, 4, 7} {
				for _, seg := range []int{1, 2, api.MaxSeg} {
					noBind(t, x, ring, name, seg, api.ErrName)
				}
				noFind(t, x, ring, name)
			}
		}
	}
}

// P13.1: names are of signs from 33 to 126, none of them `>`, alone and with others.
func TestSigns(t *testing.T) {
	x := New()
	many := 0
	for sign := range 256 {
		for _, name := range []string{string([]byte{byte(sign)}), string([]byte{'a', byte(sign)}), string([]byte{byte(sign), 'a'})} {
			if sign < 33 || sign > 126 || sign == '>' {
				if e := x.Bind(4, name, 1); e != api.ErrName {
					t.Errorf("Bind of %q = %d", name, e)
				}
				noFind(t, x, 4, name)
				continue
			}
			if e := x.Bind(4, name, 1); e != api.OK {
				t.Errorf("Bind of %q = %d", name, e)
			}
			wantFind(t, x, 4, name, 1)
			many++
		}
	}
	// Both names of two signs are one where the sign is an a.
	wantLen(t, x, many-1)
}

// P13.1: names are of 1 to 32 signs; those that differ in the last one alone are two.
func TestLengths(t *testing.T) {
	x := New()
	for n := 1; n <= api.MaxName; n++ {
		wantBind(t, x, 4, longest[:n], n)
		wantLen(t, x, n)
	}
	noBind(t, x, 4, longest+"n", 33, api.ErrName)
	noBind(t, x, 4, longest+longest, 33, api.ErrName)
	for n := 1; n <= api.MaxName; n++ {
		wantFind(t, x, 4, longest[:n], n)
	}
	wantBind(t, x, 4, longest[1:]+"m", 40)
	wantFind(t, x, 4, longest, api.MaxName)
	noFind(t, x, 4, longest+"n")
}

// P13.1: Drop tells whose a name was, and takes it alone.
func TestDrop(t *testing.T) {
	x := few(t)
	wantDrop(t, x, 4, "a", 1)
	wantLen(t, x, 5)
	wantOf(t, x, 4, 1, "b")
	wantOf(t, x, 7, 1, "!")
	wantFind(t, x, 3, "a", 2)
	noDrop(t, x, 4, "a", api.ErrNone)
	wantDrop(t, x, 3, "a", 2)
	wantDrop(t, x, 0, longest, api.MaxSeg)
	wantDrop(t, x, 7, "!", 1)
	wantDrop(t, x, 4, "c", 2)
	wantLen(t, x, 1)
	wantDrop(t, x, 4, "b", 1)
	wantLen(t, x, 0)
}

// P13.1: Drop of what a ring has not is ErrNone: another ring's, one that was, one that never was.
func TestDropNone(t *testing.T) {
	x := few(t)
	for ring := range api.Rings {
		for name, of := range map[string]int{"!": 7, longest: 0, "b": 4, "c": 4} {
			if ring != of {
				noDrop(t, x, ring, name, api.ErrNone)
			}
		}
		for _, name := range []string{"gone", "never", "A", "aa", longest[1:]} {
			noDrop(t, x, ring, name, api.ErrNone)
		}
	}
	wantForget(t, x, 1, 3)
	noDrop(t, x, 4, "a", api.ErrNone)
	wantDrop(t, x, 3, "a", 2)
}

// P13.1: Drop of a text that is no name, and in a ring that is none, is ErrNone too.
func TestDropWrong(t *testing.T) {
	for _, x := range []*Refer{few(t), New()} {
		for _, name := range noNames {
			noDrop(t, x, 4, name, api.ErrNone)
			noFind(t, x, 4, name)
		}
		for _, ring := range noRings {
			for _, name := range []string{"a", "b", longest, "", "a>b"} {
				noDrop(t, x, ring, name, api.ErrNone)
				noFind(t, x, ring, name)
			}
		}
	}
}

// P13.1: a name can be bound again behind its Drop, to another segment or the same.
func TestBindAgain(t *testing.T) {
	x := New()
	for seg := 1; seg <= api.MaxSeg; seg++ {
		wantBind(t, x, 4, "a", seg)
		wantOf(t, x, 4, seg, "a")
		wantLen(t, x, 1)
		wantDrop(t, x, 4, "a", seg)
		wantOf(t, x, 4, seg)
		wantLen(t, x, 0)
		wantBind(t, x, 4, "a", seg)
		wantForget(t, x, seg, 1)
	}
}

// P13.1: Forget takes all names of a segment, in all rings, tells how many, and leaves those of others.
func TestForget(t *testing.T) {
	x := New()
	for ring := range api.Rings {
		for n := range ring + 1 {
			name := "n" + strconv.Itoa(n)
			wantBind(t, x, ring, name, 9)
			wantBind(t, x, ring, name+"other", 8)
		}
	}
	wantBind(t, x, 4, "ten", 10)
	wantLen(t, x, 36+36+1)
	wantForget(t, x, 9, 36)
	wantLen(t, x, 36+1)
	for ring := range api.Rings {
		wantOf(t, x, ring, 9)
		noFind(t, x, ring, "n0")
		noDrop(t, x, ring, "n0", api.ErrNone)
		wantFind(t, x, ring, "n0other", 8)
	}
	wantForget(t, x, 10, 1)
	wantForget(t, x, 8, 36)
	wantLen(t, x, 0)
	wantBind(t, x, 4, "n0", 1)
}

// P13.1: Forget takes a segment's names in one ring alone, too, and those of the first and the last number.
func TestForgetEnds(t *testing.T) {
	for _, seg := range []int{1, 2, api.MaxSeg - 1, api.MaxSeg} {
		for ring := range api.Rings {
			x := few(t)
			x.Forget(seg)
			had := x.Len()
			wantBind(t, x, ring, "new", seg)
			wantBind(t, x, ring, "newer", seg)
			wantForget(t, x, seg, 2)
			wantLen(t, x, had)
		}
	}
}

// P13.1: Forget of a segment without names, and of a number that no segment has, is 0.
func TestForgetNone(t *testing.T) {
	for _, x := range []*Refer{few(t), New()} {
		for _, seg := range append([]int{3, 5, 62}, noSegs...) {
			noForget(t, x, seg)
		}
	}
}

// P13.1: the names of Of rise by bytes, a name ahead of a longer one that begins with it, whatever the order in which they came.
func TestOf(t *testing.T) {
	want := []string{"!", "*", "0", "10", "9", "=", "?", "@", "A", "B", "Z", "[", "_", "a", "aA", "aa", "aaa", "ab", "b", longest, longest[1:] + "o", "z", "~"}
	for step := 1; step < len(want); step++ {
		x := New()
		wantBind(t, x, 4, "other", 2)
		wantBind(t, x, 3, "c", 1)
		for n := range want {
			// 23 names: each step goes once through all of them.
			wantBind(t, x, 4, want[n*step%len(want)], 1)
		}
		wantOf(t, x, 4, 1, want...)
		wantLen(t, x, len(want)+2)
		wantDrop(t, x, 4, "aa", 1)
		wantOf(t, x, 4, 1, append(slices.Clone(want[:15]), want[16:]...)...)
	}
}

// P13.1: Of a segment that has names in another ring alone, of one that has none, and of what is no ring or segment: empty.
func TestOfNone(t *testing.T) {
	x := few(t)
	wantOf(t, x, 4, 1, "a", "b")
	wantOf(t, x, 7, 1, "!")
	wantOf(t, x, 3, 1)
	wantOf(t, x, 0, 1)
	wantOf(t, x, 4, 5)
	wantOf(t, x, 4, 3)
	wantOf(t, x, 5, 2)
	wantOf(t, x, 4, api.MaxSeg)
	for _, x := range []*Refer{x, New()} {
		for _, ring := range noRings {
			for _, seg := range append([]int{1, 2, api.MaxSeg}, noSegs...) {
				wantOf(t, x, ring, seg)
			}
		}
		for _, seg := range noSegs {
			for ring := range api.Rings {
				wantOf(t, x, ring, seg)
			}
		}
	}
}

// R4: a list that Of answered is new memory, spare room too, and no later call is seen in it.
func TestOfIsNew(t *testing.T) {
	x := few(t)
	wantBind(t, x, 4, "d", 1)
	first, again := x.Of(4, 1), x.Of(4, 1)
	room := first[:cap(first)]
	for i := range room {
		room[i] = "zzz"
	}
	want := []string{"a", "b", "d"}
	wantOf(t, x, 4, 1, want...)
	if !slices.Equal(again, want) {
		t.Errorf("an answer changed with another: %q", again)
	}
	wantDrop(t, x, 4, "b", 1)
	wantBind(t, x, 4, "A", 1)
	if !slices.Equal(again, want) {
		t.Errorf("an answer changed later: %q", again)
	}
	x.Forget(1)
	if !slices.Equal(again, want) {
		t.Errorf("an answer changed later: %q", again)
	}
}

// P13.1: a ring and a segment can have many names: nothing says how many at the most.
func TestMany(t *testing.T) {
	x := New()
	const many = 20000
	for n := range many {
		wantBind(t, x, 4, strconv.Itoa(n), 1)
		wantBind(t, x, n%4, strconv.Itoa(n), 1+n%2)
	}
	wantLen(t, x, 2*many)
	l := x.Of(4, 1)
	if len(l) != many || !rises(l) {
		t.Errorf("Of(4, 1) are %d names, and rises: %v", len(l), rises(l))
	}
	if n := x.Forget(1); n != many+many/2 {
		t.Errorf("Forget(1) = %d", n)
	}
	wantLen(t, x, many/2)
	for n := 1; n < many; n += 2 {
		wantDrop(t, x, n%4, strconv.Itoa(n), 2)
	}
	wantLen(t, x, 0)
}

// R3: asking changes nothing, and is answered the same again.
func TestAsksChangeNothing(t *testing.T) {
	for _, x := range []*Refer{New(), few(t)} {
		unchanged(t, x, func() {
			for _, ring := range append([]int{0, 3, 4, 7}, noRings...) {
				for _, name := range append([]string{"a", "gone", "never"}, noNames...) {
					x.Find(ring, name)
				}
				for _, seg := range append([]int{1, 2, 5}, noSegs...) {
					x.Of(ring, seg)
				}
			}
		})
	}
}

// R3: calls that were refused keep no name from later ones.
func TestRefusedTakeNothing(t *testing.T) {
	x := New()
	for _, ring := range noRings {
		x.Bind(ring, "a", 1)
		x.Drop(ring, "a")
	}
	for _, seg := range noSegs {
		x.Bind(4, "a", seg)
		x.Forget(seg)
	}
	for _, name := range noNames {
		x.Bind(4, name, 1)
	}
	wantLen(t, x, 0)
	wantBind(t, x, 4, "a", 2)
	x.Bind(4, "a", 3)
	wantOf(t, x, 4, 3)
	wantForget(t, x, 2, 1)
	wantBind(t, x, 4, "a", 3)
	wantLen(t, x, 1)
}

// R7: a nil table answers nought, ErrArg where an error is among the answers.
func TestNil(t *testing.T) {
	var x *Refer
	wantLen(t, x, 0)
	for _, ring := range append([]int{0, 4, 7}, noRings...) {
		for _, name := range append([]string{"a", longest}, noNames...) {
			noFind(t, x, ring, name)
			if n, e := x.Drop(ring, name); n != 0 || e != api.ErrArg {
				t.Errorf("Drop(%d, %q) = %d, %d", ring, name, n, e)
			}
			for _, seg := range []int{1, api.MaxSeg, 0, -1, api.MaxSeg + 1} {
				if e := x.Bind(ring, name, seg); e != api.ErrArg {
					t.Errorf("Bind(%d, %q, %d) = %d", ring, name, seg, e)
				}
			}
		}
		for _, seg := range append([]int{1, api.MaxSeg}, noSegs...) {
			wantOf(t, x, ring, seg)
			if n := x.Forget(seg); n != 0 {
				t.Errorf("Forget(%d) = %d", seg, n)
			}
		}
	}
}

// R1: a table that New did not make is one without names.
func TestNotByNew(t *testing.T) {
	var x Refer
	noFind(t, &x, 4, "a")
	noDrop(t, &x, 4, "a", api.ErrNone)
	noForget(t, &x, 1)
	wantOf(t, &x, 4, 1)
	wantLen(t, &x, 0)
	noBind(t, &x, 8, "a", 1, api.ErrArg)
	wantBind(t, &x, 4, "a", 1)
	wantOf(t, &x, 4, 1, "a")
}
