package store

import (
	"math"
	"slices"
	"testing"

	"concentric/api"
)

// look is all that a store tells of its segments up to a number: a call that is refused must leave it as it was.
type look struct {
	used     int
	segments [][]api.Word
	errs     []api.Errno
}

func lookAt(t *testing.T, s *Store, to int) look {
	t.Helper()
	l := look{used: s.Used()}
	for uid := -1; uid <= to; uid++ {
		words, e := s.Words(uid)
		l.segments = append(l.segments, words)
		l.errs = append(l.errs, e)
		size, f := s.Size(uid)
		if size != len(words) || f != e {
			t.Errorf("segment %d: Size %d, %d, Words %v, %d", uid, size, f, words, e)
		}
	}
	return l
}

func (l look) same(m look) bool {
	return l.used == m.used && slices.Equal(l.errs, m.errs) && slices.EqualFunc(l.segments, m.segments, slices.Equal)
}

// unchanged calls and tells if a store looks otherwise afterwards.
func unchanged(t *testing.T, what string, s *Store, call func()) {
	t.Helper()
	before := lookAt(t, s, 8)
	call()
	if after := lookAt(t, s, 8); !before.same(after) {
		t.Errorf("%s: was %v, is %v", what, before, after)
	}
}

func mustMake(t *testing.T, s *Store, size, want int) {
	t.Helper()
	if uid, e := s.Make(size); uid != want || e != api.OK {
		t.Fatalf("Make(%d) = %d, %d, want number %d", size, uid, e, want)
	}
}

// filled writes 1, 2, 3 and so on, shifted by the segment's number, into all words of a segment.
func filled(t *testing.T, s *Store, uid int) []api.Word {
	t.Helper()
	size, _ := s.Size(uid)
	var want []api.Word
	for off := range size {
		w := api.Word(uid<<20 + off + 1)
		if e := s.Write(uid, off, w); e != api.OK {
			t.Fatalf("Write(%d, %d) = %d", uid, off, e)
		}
		want = append(want, w)
	}
	return want
}

func wantWords(t *testing.T, s *Store, uid int, want []api.Word) {
	t.Helper()
	got, e := s.Words(uid)
	if e != api.OK || !slices.Equal(got, want) {
		t.Errorf("Words(%d) = %v, %d, want %v", uid, got, e, want)
	}
	if size, e := s.Size(uid); size != len(want) || e != api.OK {
		t.Errorf("Size(%d) = %d, %d, want %d", uid, size, e, len(want))
	}
	for off, w := range want {
		if got, e := s.Read(uid, off); got != w || e != api.OK {
			t.Errorf("Read(%d, %d) = %d, %d, want %d", uid, off, got, e, w)
		}
	}
}

func wantUsed(t *testing.T, s *Store, want int) {
	t.Helper()
	if got := s.Used(); got != want {
		t.Errorf("Used() = %d, want %d", got, want)
	}
}

// P5.1: the chapter's example.
func TestExample(t *testing.T) {
	s := New(10)
	mustMake(t, s, 8, 1)
	if uid, e := s.Make(3); uid != 0 || e != api.ErrQuota {
		t.Errorf("Make(3) = %d, %d", uid, e)
	}
}

// P5.1: a life of some segments: made, written, read, made longer and shorter, dropped.
func TestLife(t *testing.T) {
	s := New(100)
	wantUsed(t, s, 0)
	mustMake(t, s, 3, 1)
	mustMake(t, s, 2, 2)
	wantUsed(t, s, 5)
	wantWords(t, s, 1, []api.Word{0, 0, 0})
	wantWords(t, s, 2, []api.Word{0, 0})
	s.Write(1, 1, 7)
	s.Write(2, 0, 8)
	wantWords(t, s, 1, []api.Word{0, 7, 0})
	wantWords(t, s, 2, []api.Word{8, 0})
	s.Write(1, 1, 9)
	wantWords(t, s, 1, []api.Word{0, 9, 0})
	if e := s.Resize(1, 5); e != api.OK {
		t.Errorf("longer: %d", e)
	}
	wantUsed(t, s, 7)
	wantWords(t, s, 1, []api.Word{0, 9, 0, 0, 0})
	if e := s.Resize(1, 2); e != api.OK {
		t.Errorf("shorter: %d", e)
	}
	wantUsed(t, s, 4)
	wantWords(t, s, 1, []api.Word{0, 9})
	wantWords(t, s, 2, []api.Word{8, 0})
	if e := s.Drop(1); e != api.OK {
		t.Errorf("drop: %d", e)
	}
	wantUsed(t, s, 2)
	wantWords(t, s, 2, []api.Word{8, 0})
}

// P5.1: a quota below 0 is one of 0, which has room for segments of no words.
func TestSmallQuotas(t *testing.T) {
	for _, quota := range []int{0, -1, -5, math.MinInt} {
		s := New(quota)
		if uid, e := s.Make(1); uid != 0 || e != api.ErrQuota {
			t.Errorf("quota %d: Make(1) = %d, %d", quota, uid, e)
		}
		mustMake(t, s, 0, 1)
		mustMake(t, s, 0, 2)
		if e := s.Resize(1, 1); e != api.ErrQuota {
			t.Errorf("quota %d: Resize(1, 1) = %d", quota, e)
		}
		if e := s.Resize(1, 0); e != api.OK {
			t.Errorf("quota %d: Resize(1, 0) = %d", quota, e)
		}
		wantUsed(t, s, 0)
		wantWords(t, s, 1, nil)
	}
	s := New(1)
	if uid, e := s.Make(2); uid != 0 || e != api.ErrQuota {
		t.Errorf("quota 1: Make(2) = %d, %d", uid, e)
	}
	mustMake(t, s, 1, 1)
	if uid, e := s.Make(1); uid != 0 || e != api.ErrQuota {
		t.Errorf("quota 1: second Make(1) = %d, %d", uid, e)
	}
	wantUsed(t, s, 1)
}

// P5.1, R6: sizes at their ends and one past them, of Make and of Resize; ErrArg comes ahead of ErrQuota.
func TestSizes(t *testing.T) {
	for _, quota := range []int{0, 3, api.MaxSize, 3 * api.MaxSize, math.MaxInt} {
		for _, size := range []int{-1, -2, math.MinInt, api.MaxSize + 1, api.MaxSize + 2, math.MaxInt} {
			s := New(quota)
			mustMake(t, s, 0, 1)
			unchanged(t, "wrong size", s, func() {
				if uid, e := s.Make(size); uid != 0 || e != api.ErrArg {
					t.Errorf("quota %d: Make(%d) = %d, %d", quota, size, uid, e)
				}
				if e := s.Resize(1, size); e != api.ErrArg {
					t.Errorf("quota %d: Resize(1, %d) = %d", quota, size, e)
				}
			})
		}
	}
	s := New(2 * api.MaxSize)
	mustMake(t, s, api.MaxSize, 1)
	mustMake(t, s, 0, 2)
	if e := s.Resize(2, api.MaxSize); e != api.OK {
		t.Errorf("Resize to MaxSize: %d", e)
	}
	wantUsed(t, s, 2*api.MaxSize)
	wantWords(t, s, 1, make([]api.Word, api.MaxSize))
	wantWords(t, s, 2, make([]api.Word, api.MaxSize))
}

// P5.1: the last word of the quota, and one more, by Make and by Resize; what is asked is the room beside the other segments.
func TestQuota(t *testing.T) {
	s := New(20)
	mustMake(t, s, 8, 1)
	mustMake(t, s, 11, 2)
	unchanged(t, "over quota", s, func() {
		if uid, e := s.Make(2); uid != 0 || e != api.ErrQuota {
			t.Errorf("Make(2) = %d, %d", uid, e)
		}
		if e := s.Resize(1, 10); e != api.ErrQuota {
			t.Errorf("Resize(1, 10) = %d", e)
		}
		if e := s.Resize(1, api.MaxSize); e != api.ErrQuota {
			t.Errorf("Resize(1, MaxSize) = %d", e)
		}
	})
	if e := s.Resize(1, 9); e != api.OK {
		t.Errorf("Resize(1, 9) = %d", e)
	}
	wantUsed(t, s, 20)
	unchanged(t, "one over quota", s, func() {
		if uid, e := s.Make(1); uid != 0 || e != api.ErrQuota {
			t.Errorf("Make(1) = %d, %d", uid, e)
		}
		if e := s.Resize(2, 12); e != api.ErrQuota {
			t.Errorf("Resize(2, 12) = %d", e)
		}
	})
	// At a full quota no words are still as good as fewer words.
	mustMake(t, s, 0, 3)
	for _, size := range []int{11, 10} {
		if e := s.Resize(2, size); e != api.OK {
			t.Errorf("Resize(2, %d) = %d", size, e)
		}
	}
	mustMake(t, s, 1, 4)
	wantUsed(t, s, 20)
}

// P5.1: a quota at the end of int, where a sum would go round.
func TestGreatQuota(t *testing.T) {
	s := New(math.MaxInt)
	for n := range 5 {
		mustMake(t, s, api.MaxSize, n+1)
	}
	for _, size := range []int{0, api.MaxSize, 1, 0} {
		if e := s.Resize(1, size); e != api.OK {
			t.Errorf("Resize(1, %d) = %d", size, e)
		}
		wantUsed(t, s, 4*api.MaxSize+size)
	}
}

// P5.1: what is dropped or cut is free at once.
func TestFree(t *testing.T) {
	s := New(10)
	mustMake(t, s, 6, 1)
	mustMake(t, s, 4, 2)
	s.Drop(1)
	wantUsed(t, s, 4)
	if uid, e := s.Make(7); uid != 0 || e != api.ErrQuota {
		t.Errorf("Make(7) = %d, %d", uid, e)
	}
	mustMake(t, s, 6, 3)
	s.Resize(3, 5)
	wantUsed(t, s, 9)
	if e := s.Resize(2, 6); e != api.ErrQuota {
		t.Errorf("Resize(2, 6) = %d", e)
	}
	if e := s.Resize(2, 5); e != api.OK {
		t.Errorf("Resize(2, 5) = %d", e)
	}
	wantUsed(t, s, 10)
	s.Drop(2)
	s.Drop(3)
	wantUsed(t, s, 0)
	mustMake(t, s, 10, 4)
}

// P5.1: numbers are given from 1 on and none twice: behind a Drop of the last one, of all, and behind a Make that was refused.
func TestNumbers(t *testing.T) {
	s := New(3)
	mustMake(t, s, 1, 1)
	s.Make(-1)
	s.Make(api.MaxSize + 1)
	s.Make(3)
	mustMake(t, s, 1, 2)
	s.Drop(2)
	mustMake(t, s, 1, 3)
	s.Drop(1)
	s.Drop(3)
	mustMake(t, s, 1, 4)
	for uid, want := range []api.Errno{api.ErrNone, api.ErrNone, api.ErrNone, api.ErrNone, api.OK, api.ErrNone} {
		if _, e := s.Size(uid); e != want {
			t.Errorf("Size(%d): %d, want %d", uid, e, want)
		}
	}
	if other := New(3); other != nil {
		mustMake(t, other, 1, 1)
	}
}

// P5.1: a number is given once also where many were given and dropped.
func TestManyNumbers(t *testing.T) {
	s := New(1)
	for n := range 5000 {
		mustMake(t, s, 1, n+1)
		if e := s.Write(n+1, 0, 5); e != api.OK {
			t.Fatalf("Write: %d", e)
		}
		if e := s.Drop(n + 1); e != api.OK {
			t.Fatalf("Drop: %d", e)
		}
	}
	mustMake(t, s, 1, 5001)
	wantWords(t, s, 5001, []api.Word{0})
}

// P5.1: words beyond a cut are gone: they are 0 when the segment is made longer again, and when another one takes their room.
func TestCut(t *testing.T) {
	s := New(12)
	mustMake(t, s, 6, 1)
	full := filled(t, s, 1)
	for _, cut := range []int{5, 3, 1, 0} {
		if e := s.Resize(1, cut); e != api.OK {
			t.Fatalf("Resize(1, %d) = %d", cut, e)
		}
		wantWords(t, s, 1, full[:cut])
		if _, e := s.Read(1, cut); e != api.ErrBound {
			t.Errorf("Read behind the cut at %d: %d", cut, e)
		}
		if e := s.Write(1, cut, 1); e != api.ErrBound {
			t.Errorf("Write behind the cut at %d: %d", cut, e)
		}
		if e := s.Resize(1, 6); e != api.OK {
			t.Fatalf("Resize(1, 6) = %d", e)
		}
		wantWords(t, s, 1, append(slices.Clone(full[:cut]), make([]api.Word, 6-cut)...))
	}
	filled(t, s, 1)
	s.Drop(1)
	mustMake(t, s, 6, 2)
	wantWords(t, s, 2, make([]api.Word, 6))
}

// P5.1: a Resize to the size it has changes nothing, at a full quota too.
func TestSameSize(t *testing.T) {
	s := New(4)
	mustMake(t, s, 4, 1)
	filled(t, s, 1)
	unchanged(t, "same size", s, func() {
		if e := s.Resize(1, 4); e != api.OK {
			t.Errorf("Resize(1, 4) = %d", e)
		}
	})
}

// P5.1: what is written changes that word alone: no other of its segment, and none of another, the neighbours' ends too.
func TestWriteAlone(t *testing.T) {
	s := New(100)
	want := map[int][]api.Word{}
	for uid := 1; uid <= 4; uid++ {
		mustMake(t, s, 5, uid)
		want[uid] = filled(t, s, uid)
	}
	s.Resize(2, 7)
	want[2] = append(want[2], 0, 0)
	s.Resize(3, 2)
	want[3] = want[3][:2]
	for uid := 1; uid <= 4; uid++ {
		for off := range want[uid] {
			w := api.Word(1000*uid + off)
			if e := s.Write(uid, off, w); e != api.OK {
				t.Fatalf("Write(%d, %d) = %d", uid, off, e)
			}
			want[uid][off] = w
			for other := 1; other <= 4; other++ {
				wantWords(t, s, other, want[other])
			}
		}
	}
	wantUsed(t, s, 19)
}

// P5.1: what is written in one store is not seen in another.
func TestStoresApart(t *testing.T) {
	a, b := New(4), New(4)
	mustMake(t, a, 2, 1)
	mustMake(t, b, 3, 1)
	filled(t, a, 1)
	wantWords(t, b, 1, []api.Word{0, 0, 0})
	a.Drop(1)
	wantWords(t, b, 1, []api.Word{0, 0, 0})
	wantUsed(t, a, 0)
	wantUsed(t, b, 3)
}

// P5.1: of a word its lowest 36 bits are kept.
func TestBits(t *testing.T) {
	s := New(1)
	mustMake(t, s, 1, 1)
	for _, c := range []struct{ w, want api.Word }{
		{0, 0},
		{1, 1},
		{1 << 35, 1 << 35},
		{api.Mask, api.Mask},
		{1 << 36, 0},
		{1<<36 + 9, 9},
		{1 << 63, 0},
		{math.MaxUint64, api.Mask},
	} {
		if e := s.Write(1, 0, c.w); e != api.OK {
			t.Errorf("Write(%d) = %d", c.w, e)
		}
		wantWords(t, s, 1, []api.Word{c.want})
	}
}

// P5.1: offsets 0, the last word, the one behind it, one below 0, and far ones; R2 and R3 of those that are refused.
func TestOffsets(t *testing.T) {
	s := New(2 * api.MaxSize)
	for n, size := range []int{0, 1, 4, api.MaxSize} {
		uid := n + 1
		mustMake(t, s, size, uid)
		filled(t, s, uid)
		for _, off := range []int{size, size + 1, api.MaxSize, api.MaxOff, math.MaxInt, -1, -2, -size - 1, math.MinInt} {
			unchanged(t, "off bounds", s, func() {
				if w, e := s.Read(uid, off); w != 0 || e != api.ErrBound {
					t.Errorf("size %d: Read(%d) = %d, %d", size, off, w, e)
				}
				if e := s.Write(uid, off, 99); e != api.ErrBound {
					t.Errorf("size %d: Write(%d) = %d", size, off, e)
				}
			})
		}
		if size == 0 {
			continue
		}
		for _, off := range []int{0, size - 1} {
			if e := s.Write(uid, off, 1234); e != api.OK {
				t.Errorf("size %d: Write(%d) = %d", size, off, e)
			}
			if w, e := s.Read(uid, off); w != 1234 || e != api.OK {
				t.Errorf("size %d: Read(%d) = %d, %d", size, off, w, e)
			}
		}
	}
}

// P5.1, R2, R3, R6: of a segment that is none all calls answer ErrNone, ahead of ErrArg, ErrQuota and ErrBound.
func TestNone(t *testing.T) {
	s := New(6)
	mustMake(t, s, 2, 1)
	mustMake(t, s, 3, 2)
	mustMake(t, s, 1, 3)
	filled(t, s, 1)
	s.Drop(2)
	for _, uid := range []int{2, 0, -1, -2, 4, 5, math.MinInt, math.MaxInt} {
		unchanged(t, "no segment", s, func() {
			if e := s.Drop(uid); e != api.ErrNone {
				t.Errorf("Drop(%d) = %d", uid, e)
			}
			if size, e := s.Size(uid); size != 0 || e != api.ErrNone {
				t.Errorf("Size(%d) = %d, %d", uid, size, e)
			}
			if words, e := s.Words(uid); len(words) != 0 || e != api.ErrNone {
				t.Errorf("Words(%d) = %v, %d", uid, words, e)
			}
			for _, size := range []int{0, 1, 5, -1, api.MaxSize, api.MaxSize + 1} {
				if e := s.Resize(uid, size); e != api.ErrNone {
					t.Errorf("Resize(%d, %d) = %d", uid, size, e)
				}
			}
			for _, off := range []int{0, 1, -1, api.MaxSize} {
				if w, e := s.Read(uid, off); w != 0 || e != api.ErrNone {
					t.Errorf("Read(%d, %d) = %d, %d", uid, off, w, e)
				}
				if e := s.Write(uid, off, 9); e != api.ErrNone {
					t.Errorf("Write(%d, %d) = %d", uid, off, e)
				}
			}
		})
	}
	// None of the calls above took a number or a word of the quota.
	mustMake(t, s, 3, 4)
}

// P5.1: a store that was never written to has no segments.
func TestEmpty(t *testing.T) {
	s := New(5)
	for uid := -1; uid < 3; uid++ {
		if e := s.Drop(uid); e != api.ErrNone {
			t.Errorf("Drop(%d) = %d", uid, e)
		}
	}
	wantUsed(t, s, 0)
}

// R4: a list that Words answered is new memory, spare room too, and no later call is seen in it.
func TestWordsAreNew(t *testing.T) {
	s := New(20)
	mustMake(t, s, 3, 1)
	mustMake(t, s, 3, 2)
	want := filled(t, s, 1)
	two := filled(t, s, 2)
	first, _ := s.Words(1)
	again, _ := s.Words(1)
	room := first[:cap(first)]
	for i := range room {
		room[i] = 77
	}
	wantWords(t, s, 1, want)
	wantWords(t, s, 2, two)
	if !slices.Equal(again, want) {
		t.Errorf("two answers share memory: %v", again)
	}
	s.Write(1, 0, 5)
	s.Resize(1, 1)
	s.Drop(1)
	if !slices.Equal(again, want) {
		t.Errorf("an answer changed later: %v", again)
	}
	s.Resize(2, 1)
	cut, _ := s.Words(2)
	for _, w := range cut[1:cap(cut)] {
		if w != 0 {
			t.Errorf("words that are gone stand in spare room: %d", w)
		}
	}
}

// R7: each method of a nil Store.
func TestNil(t *testing.T) {
	var s *Store
	if uid, e := s.Make(1); uid != 0 || e != api.ErrArg {
		t.Errorf("Make = %d, %d", uid, e)
	}
	if uid, e := s.Make(-1); uid != 0 || e != api.ErrArg {
		t.Errorf("Make(-1) = %d, %d", uid, e)
	}
	if e := s.Drop(1); e != api.ErrArg {
		t.Errorf("Drop = %d", e)
	}
	if size, e := s.Size(1); size != 0 || e != api.ErrArg {
		t.Errorf("Size = %d, %d", size, e)
	}
	if e := s.Resize(1, 1); e != api.ErrArg {
		t.Errorf("Resize = %d", e)
	}
	if w, e := s.Read(1, 0); w != 0 || e != api.ErrArg {
		t.Errorf("Read = %d, %d", w, e)
	}
	if e := s.Write(1, 0, 1); e != api.ErrArg {
		t.Errorf("Write = %d", e)
	}
	if words, e := s.Words(1); len(words) != 0 || e != api.ErrArg {
		t.Errorf("Words = %v, %d", words, e)
	}
	wantUsed(t, s, 0)
}

// R1: a Store that New did not make panics nowhere: it is one of quota 0.
func TestZeroStore(t *testing.T) {
	var s Store
	if e := s.Drop(1); e != api.ErrNone {
		t.Errorf("Drop = %d", e)
	}
	if uid, e := s.Make(1); uid != 0 || e != api.ErrQuota {
		t.Errorf("Make(1) = %d, %d", uid, e)
	}
	mustMake(t, &s, 0, 1)
	wantWords(t, &s, 1, nil)
	wantUsed(t, &s, 0)
}

// place is a word's, in the second reading.
type place struct{ uid, off int }

// plain is a second reading of P5.1: every word stands by itself under its place, and sizes are counted, not kept.
type plain struct {
	quota, made int
	alive       []int
	words       map[place]api.Word
}

func (p *plain) size(uid int) int {
	n := 0
	for at := range p.words {
		if at.uid == uid {
			n++
		}
	}
	return n
}

func (p *plain) extend(uid, from, to int) {
	for off := from; off < to; off++ {
		p.words[place{uid, off}] = 0
	}
	for off := to; off < from; off++ {
		delete(p.words, place{uid, off})
	}
}

func (p *plain) fit(from, to int) api.Errno {
	if to < 0 || to > 1024 {
		return api.ErrArg
	}
	if len(p.words)-from+to > p.quota {
		return api.ErrQuota
	}
	return api.OK
}

func (p *plain) make(size int) (int, api.Errno) {
	if e := p.fit(0, size); e != api.OK {
		return 0, e
	}
	p.made++
	p.alive = append(p.alive, p.made)
	p.extend(p.made, 0, size)
	return p.made, api.OK
}

func (p *plain) drop(uid int) api.Errno {
	at := slices.Index(p.alive, uid)
	if at < 0 {
		return api.ErrNone
	}
	p.extend(uid, p.size(uid), 0)
	p.alive = slices.Delete(p.alive, at, at+1)
	return api.OK
}

func (p *plain) resize(uid, size int) api.Errno {
	if !slices.Contains(p.alive, uid) {
		return api.ErrNone
	}
	from := p.size(uid)
	if e := p.fit(from, size); e != api.OK {
		return e
	}
	p.extend(uid, from, size)
	return api.OK
}

func (p *plain) read(uid, off int) (api.Word, api.Errno) {
	if !slices.Contains(p.alive, uid) {
		return 0, api.ErrNone
	}
	w, ok := p.words[place{uid, off}]
	if !ok {
		return 0, api.ErrBound
	}
	return w, api.OK
}

func (p *plain) write(uid, off int, w api.Word) api.Errno {
	_, e := p.read(uid, off)
	if e == api.OK {
		p.words[place{uid, off}] = w % (1 << 36)
	}
	return e
}

func (p *plain) all(uid int) ([]api.Word, api.Errno) {
	if !slices.Contains(p.alive, uid) {
		return nil, api.ErrNone
	}
	var l []api.Word
	for off := range p.size(uid) {
		l = append(l, p.words[place{uid, off}])
	}
	return l, api.OK
}

// dice is a row of numbers that hangs on its start alone.
type dice uint64

func (d *dice) roll(n int) int {
	*d = *d*6364136223846793005 + 1442695040888963407
	return int(uint64(*d)>>33) % n
}

// turn makes one call of both readings and tells what it was if they differ.
func turn(d *dice, s *Store, p *plain) (int, bool) {
	uid, n, w := d.roll(p.made+3)-1, d.roll(12)-2, api.Word(d.roll(1<<30))<<8
	switch kind := d.roll(6); kind {
	case 0:
		a, e := s.Make(n)
		b, f := p.make(n)
		return kind, a == b && e == f
	case 1:
		if d.roll(3) > 0 {
			return kind, true
		}
		return kind, s.Drop(uid) == p.drop(uid)
	case 2:
		return kind, s.Resize(uid, n) == p.resize(uid, n)
	case 3:
		a, e := s.Read(uid, n)
		b, f := p.read(uid, n)
		return kind, a == b && e == f
	default:
		return kind, s.Write(uid, n, w) == p.write(uid, n, w)
	}
}

// P5.1, R3: long rows of calls, against the second reading, with all that can be told looked at after each.
func TestAgainstPlain(t *testing.T) {
	for start := range 60 {
		d := dice(start)
		quota := []int{-3, 0, 1, 7, 20, 40}[start%6]
		s, p := New(quota), &plain{quota: max(quota, 0), words: map[place]api.Word{}}
		for n := range 120 {
			kind, same := turn(&d, s, p)
			if !same {
				t.Fatalf("start %d, call %d of kind %d answered otherwise", start, n, kind)
			}
			if s.Used() != len(p.words) {
				t.Fatalf("start %d, call %d of kind %d: Used() = %d, want %d", start, n, kind, s.Used(), len(p.words))
			}
			for uid := -1; uid <= p.made+1; uid++ {
				a, e := s.Words(uid)
				b, f := p.all(uid)
				size, g := s.Size(uid)
				if e != f || g != f || size != len(b) || !slices.Equal(a, b) {
					t.Fatalf("start %d, call %d of kind %d: segment %d is %v, %d, want %v, %d", start, n, kind, uid, a, e, b, f)
				}
			}
		}
	}
}

// R5: the same calls are answered the same way a second time.
func TestAgain(t *testing.T) {
	told := func() []look {
		s, d, p := New(20), dice(5), &plain{quota: 20, words: map[place]api.Word{}}
		var l []look
		for range 100 {
			turn(&d, s, p)
			l = append(l, lookAt(t, s, 12))
		}
		return l
	}
	if !slices.EqualFunc(told(), told(), look.same) {
		t.Error("the same calls looked otherwise")
	}
}
