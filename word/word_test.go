package word

import (
	"math"
	"testing"

	"concentric/api"
)

const (
	top  = api.Word(1) << 35
	most = api.Word(1)<<36 - 1
	all  = api.Word(math.MaxUint64)
)

// samples are words with and without bits that do not count.
func samples() []api.Word {
	return []api.Word{0, 1, 2, 5, 0o123456701234, 0o525252525252, 0o252525252525, top - 1, top, top + 1, most - 1, most,
		1 << 36, 1<<36 + 1, 0o123456701234 | 7<<40, top | 1<<63, 1 << 63, all - 1, all}
}

// edges are numbers at which a width or a sign turns.
func edges() []int64 {
	return []int64{0, 1, 5, -1, -2, 1<<35 - 1, 1 << 35, 1<<35 + 1, -1 << 35, -1<<35 - 1, -1<<35 + 1, 1<<36 - 1, 1 << 36, 1<<36 + 7,
		-1 << 36, -1<<36 - 1, -1<<36 + 1, math.MaxInt64, math.MinInt64, math.MinInt64 + 1}
}

// bit is bit k of w, 0 the highest of 36, reckoned without shifts.
func bit(w api.Word, k int) int {
	rest := uint64(w) % (1 << 36)
	for range 35 - k {
		rest /= 2
	}
	return int(rest % 2)
}

// fromBits is the word whose lowest bits are these, the first the highest.
func fromBits(bits []int) api.Word {
	var w api.Word
	for _, b := range bits {
		w = w*2 + api.Word(b)
	}
	return w
}

func bitsOf(w api.Word) []int {
	bits := make([]int, 36)
	for k := range bits {
		bits[k] = bit(w, k)
	}
	return bits
}

// modulo is n in 0 to 2^36 - 1.
func modulo(n int64) api.Word {
	const size = 1 << 36
	return api.Word((n%size + size) % size)
}

// P1.1: Of takes the lowest 36 bits of any number.
func TestOf(t *testing.T) {
	for _, n := range edges() {
		if got, want := Of(n), modulo(n); got != want {
			t.Errorf("Of(%d) = %o, want %o", n, got, want)
		}
	}
	if Of(-1) != most || Of(-1<<35) != top || Of(math.MinInt64) != 0 || Of(math.MaxInt64) != most {
		t.Error("Of at its edges")
	}
}

// P1.1: Sign is the number of two's complement, whatever stands above the 36th bit.
func TestSign(t *testing.T) {
	for _, c := range []struct {
		w    api.Word
		want int64
	}{
		{0, 0}, {1, 1}, {5, 5}, {top - 1, 1<<35 - 1}, {top, -1 << 35}, {top + 1, -1<<35 + 1}, {most - 1, -2}, {most, -1},
		{1 << 36, 0}, {1<<36 + 3, 3}, {1 << 63, 0}, {1<<63 | top, -1 << 35}, {all, -1}, {all - most, 0}, {all - top, 1<<35 - 1},
	} {
		if got := Sign(c.w); got != c.want {
			t.Errorf("Sign(%o) = %d, want %d", c.w, got, c.want)
		}
	}
}

// P1.1: Of undoes Sign on every word, and Sign undoes Of on what 36 bits hold.
func TestOfAndSign(t *testing.T) {
	for _, w := range samples() {
		if got := Of(Sign(w)); got != w%(1<<36) {
			t.Errorf("Of(Sign(%o)) = %o", w, got)
		}
	}
	for _, n := range edges() {
		if got := Sign(Of(n)); n >= -1<<35 && n < 1<<35 && got != n {
			t.Errorf("Sign(Of(%d)) = %d", n, got)
		}
	}
}

// P1.1: every field of a word, bit by bit.
func TestGet(t *testing.T) {
	for _, w := range samples() {
		bits := bitsOf(w)
		for at := 0; at < 36; at++ {
			for n := 1; at+n <= 36; n++ {
				want := fromBits(bits[at : at+n])
				if got, e := Get(w, at, n); got != want || e != api.OK {
					t.Fatalf("Get(%o, %d, %d) = %o, %v, want %o", w, at, n, got, e, want)
				}
			}
		}
	}
	if got, e := Get(1, 35, 1); got != 1 || e != api.OK {
		t.Errorf("Get(1, 35, 1) = %o, %v: the chapter's example", got, e)
	}
}

// P1.1: Put changes its field alone, to the lowest bits of what is put.
func TestPut(t *testing.T) {
	for _, w := range samples() {
		for _, v := range samples() {
			from := bitsOf(v)
			for at := 0; at < 36; at++ {
				for n := 1; at+n <= 36; n++ {
					bits := bitsOf(w)
					copy(bits[at:at+n], from[36-n:])
					want := fromBits(bits)
					if got, e := Put(w, at, n, v); got != want || e != api.OK {
						t.Fatalf("Put(%o, %d, %d, %o) = %o, %v, want %o", w, at, n, v, got, e, want)
					}
				}
			}
		}
	}
}

// P1.1, R1, R2: what is no field is refused, with nothing beside the error.
func TestNoField(t *testing.T) {
	odd := []int{math.MinInt, math.MinInt + 1, math.MinInt + 36, -64, -37, -36, -1, 0, 1, 2, 18, 34, 35, 36, 37, 38, 63, 64, 65,
		math.MaxInt32, math.MaxInt - 36, math.MaxInt - 35, math.MaxInt - 1, math.MaxInt}
	for _, at := range odd {
		for _, n := range odd {
			if n >= 1 && n <= 36 && at >= 0 && at <= 36 && at+n <= 36 {
				continue
			}
			for _, w := range samples() {
				if got, e := Get(w, at, n); got != 0 || e != api.ErrArg {
					t.Fatalf("Get(%o, %d, %d) = %o, %v", w, at, n, got, e)
				}
				if got, e := Put(w, at, n, most); got != 0 || e != api.ErrArg {
					t.Fatalf("Put(%o, %d, %d, most) = %o, %v", w, at, n, got, e)
				}
			}
		}
	}
}

// P1.1: the greatest field from each place is taken, one bit more is refused.
func TestFieldEnds(t *testing.T) {
	for at := 0; at < 36; at++ {
		if _, e := Get(most, at, 36-at); e != api.OK {
			t.Errorf("Get from %d to the end: %v", at, e)
		}
		if got, e := Get(most, at, 37-at); got != 0 || e != api.ErrArg {
			t.Errorf("Get from %d past the end: %o, %v", at, got, e)
		}
		if _, e := Put(0, at, 36-at, most); e != api.OK {
			t.Errorf("Put from %d to the end: %v", at, e)
		}
		if got, e := Put(0, at, 37-at, most); got != 0 || e != api.ErrArg {
			t.Errorf("Put from %d past the end: %o, %v", at, got, e)
		}
	}
}

// P1.1: sums and differences are modulo 2^36.
func TestAddSub(t *testing.T) {
	for _, a := range samples() {
		for _, b := range samples() {
			x, y := int64(a%(1<<36)), int64(b%(1<<36))
			if got, want := Add(a, b), modulo(x+y); got != want {
				t.Errorf("Add(%o, %o) = %o, want %o", a, b, got, want)
			}
			if got, want := Sub(a, b), modulo(x-y); got != want {
				t.Errorf("Sub(%o, %o) = %o, want %o", a, b, got, want)
			}
		}
	}
	if Add(most, 1) != 0 || Sub(0, 1) != most || Add(top, top) != 0 || Sub(5, 7) != most-1 {
		t.Error("sums at the turn")
	}
}

// R5: a call answers the same however often it is asked, and whatever was asked between.
func TestSameAgain(t *testing.T) {
	const w = 0o123456701234
	for range 3 {
		got, e := Put(w, 12, 6, 0)
		if got != 0o123400701234 || e != api.OK {
			t.Errorf("Put = %o, %v", got, e)
		}
		got, e = Get(w, 12, 6)
		if got != 0o56 || e != api.OK {
			t.Errorf("Get = %o, %v", got, e)
		}
		if _, e = Get(w, 36, 1); e != api.ErrArg {
			t.Errorf("Get past the end: %v", e)
		}
	}
}
