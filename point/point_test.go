package point

import (
	"math"
	"testing"

	"concentric/api"
)

const (
	most = api.Word(1)<<36 - 1
	all  = api.Word(math.MaxUint64)
	turn = 1 << 18
)

// far are numbers that no field holds, and at which a narrower kind or a sign turns.
func far() []int {
	return []int{math.MinInt, math.MinInt + 1, -1 << 40, -1 << 36, -1 << 32, math.MinInt32, -turn - 1, -turn, -turn + 1, -4096, -8, -1,
		turn, turn + 1, 2*turn - 1, 2 * turn, math.MaxInt32, 1 << 32, 1<<32 + 1, 1 << 36, 1 << 40, math.MaxInt - 1, math.MaxInt}
}

// near are numbers on both sides of what each field holds.
func near() []int {
	return []int{-9, -8, -7, -2, -1, 0, 1, 2, 3, 4, 5, 6, 7, 8, 9, 15, 16, 4094, 4095, 4096, 4097, turn - 2, turn - 1}
}

func numbers() []int { return append(near(), far()...) }

// fields are ordinary and greatest values of one field, none outside it.
func fields(greatest int) []int {
	l := []int{0, 1, 2, 5, greatest / 2, greatest/2 + 1, greatest - 1, greatest}
	for n := 4; n <= greatest; n *= 2 {
		l = append(l, n)
	}
	return l
}

// good are pointers that may be.
func good() []api.Point {
	var l []api.Point
	for _, seg := range fields(4095) {
		for ring := 0; ring <= 7; ring++ {
			for tag := 0; tag <= 7; tag++ {
				for _, off := range fields(262143) {
					l = append(l, api.Point{Seg: seg, Ring: ring, Tag: tag, Off: off})
				}
			}
		}
	}
	return l
}

// bad are pointers with at least one field outside what it may be.
func bad() []api.Point {
	var l []api.Point
	for _, p := range []api.Point{{}, {Seg: 1, Ring: 2, Tag: 1, Off: 3}, {Seg: 4095, Ring: 7, Tag: 7, Off: 262143}} {
		for _, n := range numbers() {
			seg, ring, tag, off := p, p, p, p
			seg.Seg, ring.Ring, tag.Tag, off.Off = n, n, n, n
			if n < 0 || n > 4095 {
				l = append(l, seg)
			}
			if n < 0 || n > 7 {
				l = append(l, ring, tag, api.Point{Seg: p.Seg, Ring: n, Tag: n, Off: p.Off})
			}
			if n < 0 || n > 262143 {
				l = append(l, off, api.Point{Seg: n, Ring: n, Tag: n, Off: n})
			}
		}
	}
	return l
}

// wordOf is the word of a pointer that may be, reckoned by products.
func wordOf(p api.Point) api.Word {
	return ((api.Word(p.Seg)*8+api.Word(p.Ring))*8+api.Word(p.Tag))*turn + api.Word(p.Off)
}

// modulo is n in 0 to 2^18 - 1.
func modulo(n int) int { return (n%turn + turn) % turn }

// P2.1: a pointer may be if each field is within its ends, the ends too.
func TestMay(t *testing.T) {
	for _, p := range good() {
		if !May(p) {
			t.Errorf("May(%v) = false", p)
		}
	}
	for _, p := range bad() {
		if May(p) {
			t.Errorf("May(%v) = true", p)
		}
	}
}

// P2.1: each field alone, its least and greatest, and one past either.
func TestMayAtEnds(t *testing.T) {
	for _, c := range []struct {
		p    api.Point
		want bool
	}{
		{api.Point{}, true},
		{api.Point{Seg: -1}, false}, {api.Point{Seg: 4095}, true}, {api.Point{Seg: 4096}, false},
		{api.Point{Ring: -1}, false}, {api.Point{Ring: 7}, true}, {api.Point{Ring: 8}, false},
		{api.Point{Tag: -1}, false}, {api.Point{Tag: 7}, true}, {api.Point{Tag: 8}, false},
		{api.Point{Off: -1}, false}, {api.Point{Off: api.MaxOff}, true}, {api.Point{Off: api.MaxOff + 1}, false},
	} {
		w, e := Pack(c.p)
		if May(c.p) != c.want || (e == api.OK) != c.want || !c.want && (w != 0 || e != api.ErrArg) {
			t.Errorf("%v: May %v, Pack %o, %v, want %v", c.p, May(c.p), w, e, c.want)
		}
	}
}

// P2.1: Pack lays the fields side by side, Seg in the highest bits, and Unpack undoes it.
func TestPack(t *testing.T) {
	for _, p := range good() {
		w, e := Pack(p)
		if w != wordOf(p) || e != api.OK {
			t.Fatalf("Pack(%v) = %012o, %v, want %012o", p, w, e, wordOf(p))
		}
		if got := Unpack(w); got != p {
			t.Fatalf("Unpack(%012o) = %v, want %v", w, got, p)
		}
	}
}

// P2.1: each field's place, written out; the first row is the chapter's example.
func TestPlaces(t *testing.T) {
	for _, c := range []struct {
		p api.Point
		w api.Word
	}{
		{api.Point{Seg: 1, Ring: 2, Tag: 0, Off: 3}, 0o0001_2_0_000003},
		{api.Point{}, 0},
		{api.Point{Seg: 1}, 0o0001_0_0_000000},
		{api.Point{Seg: 4095}, 0o7777_0_0_000000},
		{api.Point{Ring: 1}, 0o0000_1_0_000000},
		{api.Point{Ring: 7}, 0o0000_7_0_000000},
		{api.Point{Tag: api.Fault}, 0o0000_0_1_000000},
		{api.Point{Tag: api.Null}, 0o0000_0_2_000000},
		{api.Point{Tag: 7}, 0o0000_0_7_000000},
		{api.Point{Off: 1}, 1},
		{api.Point{Off: api.MaxOff}, 0o0000_0_0_777777},
		{api.Point{Seg: 0o5123, Ring: 6, Tag: 3, Off: 0o456701}, 0o5123_6_3_456701},
		{api.Point{Seg: 4095, Ring: 7, Tag: 7, Off: api.MaxOff}, most},
	} {
		if w, e := Pack(c.p); w != c.w || e != api.OK {
			t.Errorf("Pack(%v) = %012o, %v, want %012o", c.p, w, e, c.w)
		}
		if p := Unpack(c.w); p != c.p {
			t.Errorf("Unpack(%012o) = %v, want %v", c.w, p, c.p)
		}
	}
}

// P2.1, R1, R2: what may not be is refused, with nothing beside the error.
func TestPackRefused(t *testing.T) {
	for _, p := range bad() {
		if w, e := Pack(p); w != 0 || e != api.ErrArg {
			t.Errorf("Pack(%v) = %o, %v", p, w, e)
		}
	}
}

// P2.1: of what is unpacked the lowest 36 bits count; it may be, and packs to them again.
func TestUnpack(t *testing.T) {
	for _, low := range []api.Word{0, 1, 3, 0o000120000003, 0o123452654321, 0o525252525252, 0o252525252525, 1 << 35, most - 1, most} {
		want := Unpack(low)
		if w, e := Pack(want); w != low || e != api.OK {
			t.Errorf("Pack(Unpack(%012o)) = %012o, %v", low, w, e)
		}
		for high := api.Word(1) << 36; high != 0; high <<= 1 {
			if got := Unpack(high | low); got != want || !May(got) {
				t.Errorf("Unpack(%o) = %v, want %v", high|low, got, want)
			}
		}
		if got := Unpack(all - most + low); got != want {
			t.Errorf("Unpack(%o) = %v, want %v", all-most+low, got, want)
		}
	}
	if got := Unpack(all); got != (api.Point{Seg: 4095, Ring: 7, Tag: 7, Off: 262143}) {
		t.Errorf("Unpack of all ones = %v", got)
	}
}

// P2.1: Raise takes the greater ring, the one raised to cut to 0 to 7, and leaves the rest.
func TestRaise(t *testing.T) {
	for _, c := range []struct{ own, to, want int }{
		{3, 4, 4}, {4, 4, 4}, {5, 4, 5}, {0, 0, 0}, {0, 7, 7}, {7, 0, 7}, {7, 7, 7},
		{3, 8, 7}, {3, 9, 7}, {7, 8, 7}, {3, math.MaxInt, 7}, {0, 1 << 32, 7},
		{3, -1, 3}, {0, -1, 0}, {3, math.MinInt, 3}, {0, -1<<32 + 5, 0},
		{8, 7, 8}, {9, 8, 9}, {9, 99, 9}, {math.MaxInt, 3, math.MaxInt},
		{-1, -1, 0}, {-2, -1, 0}, {-1, -2, 0}, {-1, 0, 0}, {-9, 5, 5}, {math.MinInt, math.MinInt, 0}, {math.MinInt, math.MaxInt, 7},
	} {
		p := api.Point{Seg: 1, Ring: c.own, Tag: 2, Off: 5}
		if got, want := Raise(p, c.to), (api.Point{Seg: 1, Ring: c.want, Tag: 2, Off: 5}); got != want {
			t.Errorf("Raise(%v, %d) = %v, want %v", p, c.to, got, want)
		}
	}
}

// T3 leans on it: a ring that is raised never falls, and is at least the cut ring raised to.
func TestRaiseNeverFalls(t *testing.T) {
	for _, own := range numbers() {
		for _, to := range numbers() {
			p := api.Point{Seg: own, Ring: own, Tag: to, Off: to}
			got := Raise(p, to)
			if got.Ring < own || got.Ring < 0 || to >= 0 && to <= 7 && got.Ring < to || to > 7 && got.Ring < 7 {
				t.Errorf("Raise(%v, %d) = %v fell", p, to, got)
			}
			if got.Ring != own && got.Ring > 7 {
				t.Errorf("Raise(%v, %d) = %v rose past 7", p, to, got)
			}
			if again := Raise(got, to); again != got {
				t.Errorf("Raise(%v, %d) twice = %v", p, to, again)
			}
			got.Ring = own
			if got != p {
				t.Errorf("Raise(%v, %d) changed more than the ring", p, to)
			}
		}
	}
}

// P2.1: Move goes round at 2^18 in both directions, and leaves the rest.
func TestMove(t *testing.T) {
	for _, c := range []struct{ off, by, want int }{
		{3, 4, 7}, {3, 0, 3}, {3, -3, 0}, {3, -4, 262143}, {0, -1, 262143}, {0, 262143, 262143}, {0, 262144, 0}, {0, -262144, 0},
		{262143, 0, 262143}, {262143, 1, 0}, {262143, 2, 1}, {262143, 262143, 262142}, {262143, 262144, 262143}, {262143, -262144, 262143},
		{5, 1 << 36, 5}, {5, 1<<40 + 1, 6}, {5, -1<<40 - 6, 262143},
	} {
		p := api.Point{Seg: 1, Ring: 2, Tag: 1, Off: c.off}
		if got, want := Move(p, c.by), (api.Point{Seg: 1, Ring: 2, Tag: 1, Off: c.want}); got != want {
			t.Errorf("Move(%v, %d) = %v, want %v", p, c.by, got, want)
		}
	}
}

// P2.1, R1: of an Off that may not be the lowest 18 bits are moved; no sum is too great or too small.
func TestMoveAnything(t *testing.T) {
	for _, off := range numbers() {
		for _, by := range numbers() {
			p := api.Point{Seg: by, Ring: off, Tag: by, Off: off}
			want := p
			want.Off = modulo(modulo(off) + modulo(by))
			got := Move(p, by)
			if got != want {
				t.Errorf("Move(%v, %d) = %v, want %v", p, by, got, want)
			}
			if back := Move(got, -modulo(by)); back.Off != modulo(off) {
				t.Errorf("Move(%v, %d) and back = %v", p, by, back)
			}
		}
	}
	for _, c := range []struct{ off, by, want int }{
		{-1, 0, 262143}, {turn + 5, 1, 6}, {-1, 1, 0}, {math.MinInt, 0, 0}, {0, math.MinInt, 0}, {math.MaxInt, 0, 262143},
		{math.MaxInt, 1, 0}, {math.MinInt, -1, 262143}, {math.MaxInt, math.MaxInt, 262142}, {math.MinInt, math.MinInt, 0},
	} {
		if got := Move(api.Point{Off: c.off}, c.by); got != (api.Point{Off: c.want}) {
			t.Errorf("Move of Off %d by %d = %v, want Off %d", c.off, c.by, got, c.want)
		}
	}
}

// R5, Ways: a pointer is a value: what is handed in stays, and the same question has the same answer.
func TestValue(t *testing.T) {
	p := api.Point{Seg: 9, Ring: 4, Tag: 0, Off: 100}
	for range 3 {
		raised, moved := Raise(p, 6), Move(p, 28)
		w, e := Pack(p)
		if raised != (api.Point{Seg: 9, Ring: 6, Off: 100}) || moved != (api.Point{Seg: 9, Ring: 4, Off: 128}) {
			t.Errorf("raised %v, moved %v", raised, moved)
		}
		if w != 0o0011_4_0_000144 || e != api.OK || Unpack(w) != p {
			t.Errorf("packed %o, %v", w, e)
		}
		if p != (api.Point{Seg: 9, Ring: 4, Tag: 0, Off: 100}) {
			t.Errorf("changed: %v", p)
		}
		if w, e := Pack(api.Point{Seg: 4096}); w != 0 || e != api.ErrArg {
			t.Errorf("Pack of what may not be: %o, %v", w, e)
		}
	}
}
