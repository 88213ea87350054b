package sdw

import (
	"math"
	"slices"
	"testing"

	"concentric/api"
)

// of4 is an SDW of four words, two of them gates, for rings 1 to 3 and, by the gates, 4 and 5.
func of4(f api.Flags) SDW { return SDW{UID: 1, Size: 4, F: f, B: brackets(1, 3, 5, 2)} }

// ask is one of Read, Write, Fetch, without the ring that Call answers beside them.
type ask func(x SDW, r, off int) api.Errno

func asks() map[string]ask {
	return map[string]ask{"Read": SDW.Read, "Write": SDW.Write, "Fetch": SDW.Fetch}
}

func wantAsk(t *testing.T, name string, x SDW, r, off int, want api.Errno) {
	t.Helper()
	if got := asks()[name](x, r, off); got != want {
		t.Errorf("%s(%d, %d) of %+v = %d, want %d", name, r, off, x, got, want)
	}
}

func wantCall(t *testing.T, x SDW, r, off, in int, want api.Errno) {
	t.Helper()
	if n, e := x.Call(r, off); n != in || e != want {
		t.Errorf("Call(%d, %d) of %+v = %d, %d, want %d, %d", r, off, x, n, e, in, want)
	}
}

// P11.1: each at every ring from -1 to 8: the ends of the brackets and one past them.
func TestByRing(t *testing.T) {
	const (
		no  = api.ErrArg
		out = api.ErrRing
	)
	for _, c := range []struct {
		name string
		b    api.Brackets
		want [10]api.Errno
	}{
		{"Read", brackets(1, 3, 5, 2), [10]api.Errno{no, 0, 0, 0, 0, out, out, out, out, no}},
		{"Write", brackets(1, 3, 5, 2), [10]api.Errno{no, 0, 0, out, out, out, out, out, out, no}},
		{"Fetch", brackets(1, 3, 5, 2), [10]api.Errno{no, out, 0, 0, 0, out, out, out, out, no}},
		{"Read", brackets(4, 4, 4, 0), [10]api.Errno{no, 0, 0, 0, 0, 0, out, out, out, no}},
		{"Write", brackets(4, 4, 4, 0), [10]api.Errno{no, 0, 0, 0, 0, 0, out, out, out, no}},
		{"Fetch", brackets(4, 4, 4, 0), [10]api.Errno{no, out, out, out, out, 0, out, out, out, no}},
		{"Read", brackets(0, 0, 7, 0), [10]api.Errno{no, 0, out, out, out, out, out, out, out, no}},
		{"Write", brackets(0, 7, 7, 0), [10]api.Errno{no, 0, out, out, out, out, out, out, out, no}},
		{"Fetch", brackets(0, 7, 7, 0), [10]api.Errno{no, 0, 0, 0, 0, 0, 0, 0, 0, no}},
		{"Write", brackets(7, 7, 7, 0), [10]api.Errno{no, 0, 0, 0, 0, 0, 0, 0, 0, no}},
	} {
		for i, want := range c.want {
			wantAsk(t, c.name, SDW{Size: 1, F: all, B: c.b}, i-1, 0, want)
		}
	}
	for i, want := range [10]int{0, 0, 1, 2, 3, 3, 3, 0, 0, 0} {
		e := [10]api.Errno{no, out, 0, 0, 0, 0, 0, out, out, no}[i]
		wantCall(t, of4(all), i-1, 1, want, e)
	}
	for _, r := range append([]int{-2, 9}, extremes...) {
		for name := range asks() {
			wantAsk(t, name, of4(all), r, 0, no)
		}
		wantCall(t, of4(all), r, 0, 0, no)
	}
}

// P11.1: each asks for its own flag and for no other; Call for that of Fetch.
func TestByFlag(t *testing.T) {
	for n := range 8 {
		f := flagsOf(n)
		for name, has := range map[string]bool{"Read": f.R, "Write": f.W, "Fetch": f.E} {
			want := api.ErrMode
			if has {
				want = api.OK
			}
			wantAsk(t, name, of4(f), 1, 0, want)
		}
		if f.E {
			wantCall(t, of4(f), 4, 0, 3, api.OK)
			wantCall(t, of4(f), 2, 3, 2, api.OK)
		} else {
			wantCall(t, of4(f), 4, 0, 0, api.ErrMode)
			wantCall(t, of4(f), 2, 3, 0, api.ErrMode)
		}
	}
}

// P11.1: offsets below 0, the first, the last, the size itself and past it, of every kind of size.
func TestOffsets(t *testing.T) {
	for _, size := range []int{0, 1, 2, 4, api.MaxSize - 1, api.MaxSize} {
		x := SDW{UID: 1, Size: size, F: all, B: brackets(2, 2, 2, 0)}
		for _, off := range append([]int{-size, -1, 0, 1, size - 1, size, size + 1, 2 * size}, extremes...) {
			want := api.ErrBound
			in := 0
			if off >= 0 && off < size {
				want, in = api.OK, 2
			}
			for name := range asks() {
				wantAsk(t, name, x, 2, off, want)
			}
			wantCall(t, x, 2, off, in, want)
		}
	}
}

// P11.1, R6: chapter 4's error goes ahead of ErrBound, whichever way the offset lies outside.
func TestOrder(t *testing.T) {
	for _, off := range append([]int{-1, 4, 5}, extremes...) {
		for name, c := range map[string]struct{ lowest, highest int }{"Read": {0, 3}, "Write": {0, 1}, "Fetch": {1, 3}} {
			wantAsk(t, name, of4(all), -1, off, api.ErrArg)
			wantAsk(t, name, of4(api.Flags{}), 8, off, api.ErrArg)
			wantAsk(t, name, of4(api.Flags{}), 7, off, api.ErrMode)
			wantAsk(t, name, of4(api.Flags{}), c.lowest, off, api.ErrMode)
			wantAsk(t, name, of4(all), c.highest+1, off, api.ErrRing)
			wantAsk(t, name, of4(all), 7, off, api.ErrRing)
			wantAsk(t, name, of4(all), c.lowest, off, api.ErrBound)
			wantAsk(t, name, of4(all), c.highest, off, api.ErrBound)
		}
		wantAsk(t, "Fetch", of4(all), 0, off, api.ErrRing)
		wantCall(t, of4(all), -1, off, 0, api.ErrArg)
		wantCall(t, of4(api.Flags{}), 8, off, 0, api.ErrArg)
		wantCall(t, of4(flagsOf(3)), 7, off, 0, api.ErrMode)
		wantCall(t, of4(flagsOf(3)), 2, off, 0, api.ErrMode)
		wantCall(t, of4(all), 0, off, 0, api.ErrRing)
		wantCall(t, of4(all), 6, off, 0, api.ErrRing)
		wantCall(t, of4(all), 4, off, 0, api.ErrGate)
		wantCall(t, of4(all), 5, off, 0, api.ErrGate)
		wantCall(t, of4(all), 1, off, 0, api.ErrBound)
		wantCall(t, of4(all), 3, off, 0, api.ErrBound)
	}
}

// P11.1: calls, within the brackets and above them, to gates and past them; gates that lie past the end are no way in.
func TestCall(t *testing.T) {
	x := of4(all)
	for _, c := range []struct {
		r, off, in int
		err        api.Errno
	}{
		{1, 0, 1, api.OK}, {2, 1, 2, api.OK}, {3, 2, 3, api.OK}, {3, 3, 3, api.OK}, {1, 3, 1, api.OK},
		{1, 4, 0, api.ErrBound}, {2, -1, 0, api.ErrBound}, {3, 4, 0, api.ErrBound},
		{4, 0, 3, api.OK}, {4, 1, 3, api.OK}, {5, 0, 3, api.OK}, {5, 1, 3, api.OK},
		{4, 2, 0, api.ErrGate}, {5, 3, 0, api.ErrGate}, {4, 4, 0, api.ErrGate}, {5, -1, 0, api.ErrGate},
		{0, 0, 0, api.ErrRing}, {6, 0, 0, api.ErrRing}, {7, 1, 0, api.ErrRing},
	} {
		wantCall(t, x, c.r, c.off, c.in, c.err)
	}
	many := x
	many.B.Gates = api.MaxSize
	wantCall(t, many, 4, 3, 3, api.OK)
	wantCall(t, many, 4, 4, 0, api.ErrBound)
	wantCall(t, many, 5, api.MaxSize-1, 0, api.ErrBound)
	wantCall(t, many, 5, api.MaxSize, 0, api.ErrGate)
	none := x
	none.B.Gates = 0
	wantCall(t, none, 4, 0, 0, api.ErrGate)
	wantCall(t, none, 3, 0, 3, api.OK)
	short := x
	short.Size = 1
	wantCall(t, short, 4, 0, 3, api.OK)
	wantCall(t, short, 4, 1, 0, api.ErrBound)
	short.Size = 0
	wantCall(t, short, 4, 0, 0, api.ErrBound)
	wantCall(t, short, 2, 0, 0, api.ErrBound)
	// Ring 0 is a ring to come into, and not to be taken for nothing.
	zero := SDW{Size: 1, F: all, B: brackets(0, 0, 7, 1)}
	wantCall(t, zero, 7, 0, 0, api.OK)
	wantCall(t, zero, 0, 0, 0, api.OK)
	wantCall(t, zero, 7, 1, 0, api.ErrGate)
	wantCall(t, zero, 0, 1, 0, api.ErrBound)
}

// P11.1: brackets that may not be are chapter 4's ErrArg, ahead of all else.
func TestBracketsThatMayNotBe(t *testing.T) {
	for _, b := range []api.Brackets{
		brackets(2, 1, 3, 0), brackets(1, 3, 2, 0), brackets(3, 2, 1, 0), brackets(-1, 3, 5, 0), brackets(1, 3, 8, 0),
		brackets(8, 8, 8, 0), brackets(1, 3, 5, -1), brackets(1, 3, 5, api.MaxSize+1),
		brackets(math.MinInt, 3, math.MaxInt, 0), brackets(1, 3, 5, math.MaxInt), brackets(1, 3, 5, math.MinInt),
	} {
		for _, f := range []api.Flags{all, {}} {
			x := SDW{UID: 1, Size: 4, F: f, B: b}
			for r := -1; r <= 8; r++ {
				for _, off := range []int{-1, 0, 3, 4} {
					for name := range asks() {
						wantAsk(t, name, x, r, off, api.ErrArg)
					}
					wantCall(t, x, r, off, 0, api.ErrArg)
				}
			}
		}
	}
}

// R1, R2: an SDW that is all nought, as beside an error, lets nobody do anything.
func TestNought(t *testing.T) {
	for r := -1; r <= 8; r++ {
		want := api.ErrMode
		if r < 0 || r > 7 {
			want = api.ErrArg
		}
		for _, off := range append([]int{-1, 0, 1}, extremes...) {
			for name := range asks() {
				wantAsk(t, name, SDW{}, r, off, want)
			}
			wantCall(t, SDW{}, r, off, 0, want)
		}
	}
	wantAsk(t, "Read", SDW{F: all}, 0, 0, api.ErrBound)
	wantAsk(t, "Read", SDW{F: all}, 1, 0, api.ErrRing)
}

// R6: an SDW made by hand is taken at its word: its UID is not asked, and its Size may be any number.
func TestByHand(t *testing.T) {
	sizes := append([]int{-4, -1, 0, 4, api.MaxSize + 1}, extremes...)
	offs := append([]int{-5, -1, 0, 3, 4, api.MaxSize}, extremes...)
	for _, size := range sizes {
		for _, uid := range append([]int{-1, 0, 99}, extremes...) {
			x := of4(all)
			x.UID, x.Size = uid, size
			for _, off := range offs {
				want, in := api.ErrBound, 0
				if 0 <= off && off < size {
					want, in = api.OK, 1
				}
				for name := range asks() {
					wantAsk(t, name, x, 1, off, want)
				}
				wantCall(t, x, 1, off, in, want)
			}
		}
	}
}

// R3, R5: asking changes neither what is asked nor the tree and the store behind it, and is answered the same again.
func TestAsksChangeNothing(t *testing.T) {
	x, s := few(t)
	unchanged(t, x, s, func() {
		for _, uid := range []int{1, 2, 4} {
			d, e := Of(x, s, uid, "bob")
			fine(t, e)
			kept := d
			row := func() []int {
				var l []int
				for r := -1; r <= 8; r++ {
					for off := -1; off <= 5; off++ {
						in, e := d.Call(r, off)
						l = append(l, int(d.Read(r, off)), int(d.Write(r, off)), int(d.Fetch(r, off)), in, int(e))
					}
				}
				return l
			}
			if !slices.Equal(row(), row()) || d != kept {
				t.Errorf("segment %d: was %+v, is %+v", uid, kept, d)
			}
		}
	})
}

// P11.1 and chapter 11's example: an object is never written, at no ring and by nobody.
func TestObjectIsNeverWritten(t *testing.T) {
	for _, b := range []api.Brackets{brackets(0, 0, 0, 0), brackets(7, 7, 7, 0), brackets(1, 3, 5, 2), brackets(0, 7, 7, 0)} {
		x, s := one(t, 4, object(1, b, term("*", all), term("bob", all)))
		for _, user := range []string{"bob", "jim", "*", ""} {
			d, e := Of(x, s, 1, user)
			fine(t, e)
			for r := range api.Rings {
				wantAsk(t, "Write", d, r, 0, api.ErrMode)
			}
			wantAsk(t, "Read", d, b.R2, 3, api.OK)
			wantAsk(t, "Fetch", d, b.R1, 3, api.OK)
			wantCall(t, d, b.R2, 3, b.R2, api.OK)
		}
	}
}
