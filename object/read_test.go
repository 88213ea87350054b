package object

import (
	"math"
	"slices"
	"testing"

	"concentric/api"
)

func refused(t *testing.T, what string, row []api.Word) {
	t.Helper()
	if o, e := Read(row); tell(o) != tell(api.Object{}) || e != api.ErrObject {
		t.Errorf("%s: Read(%o) = %+v, %v, want a refusal", what, row, o, e)
	}
}

func taken(t *testing.T, what string, row []api.Word, want api.Object) {
	t.Helper()
	if o, e := Read(row); tell(o) != tell(want) || e != api.OK {
		t.Errorf("%s: Read(%o) = %+v, %v, want %+v", what, row, o, e, want)
	}
}

// set is a new row with w at one place, counted from the end if at is below 0.
func set(row []api.Word, at int, w api.Word) []api.Word {
	l := slices.Clone(row)
	if at < 0 {
		at += len(l)
	}
	l[at] = w
	return l
}

// P10.1: Read of what Words makes is the object again.
func TestReadAgain(t *testing.T) {
	for _, o := range goods() {
		w, e := Words(o)
		if e != api.OK {
			t.Fatalf("Words(%+v): %v", o, e)
		}
		taken(t, "again", w, o)
		taken(t, "laid by hand", lay(o), o)
	}
}

// P10.1, R2: what an object that may not be would be laid out as is none, though its parts can all be told.
func TestReadMayNot(t *testing.T) {
	for _, o := range bads()[len(outside()):] {
		refused(t, "may not be", lay(o))
	}
	// the same with what no word can hold, where its lowest 36 bits may not be either
	for _, n := range []int{-1, -2, math.MinInt + 3, math.MaxInt, 1<<36 - 1, 1<<36 + 3} {
		refused(t, "offset", lay(with(func(o *api.Object) { o.Defs[0].Off = n })))
	}
	for _, n := range []int{-1, -2, math.MaxInt, 1<<36 - 1, 1<<36 + 1<<18} {
		refused(t, "addend", lay(with(func(o *api.Object) { o.Links[0].Add = n })))
	}
}

// P10.1, R2: no words, fewer than five, and rows whose last words or first are missing.
func TestReadShort(t *testing.T) {
	refused(t, "none", nil)
	refused(t, "none", []api.Word{})
	for n := range 5 {
		refused(t, "noughts", make([]api.Word, n))
		row := make([]api.Word, n+1)
		row[n] = Magic
		if n < 4 {
			refused(t, "fewer than five", row)
		}
	}
	for _, o := range goods() {
		w := lay(o)
		for n := range w {
			if len(w) > 64 && n > 8 && n < len(w)-16 {
				continue
			}
			if want, e := plainRead(w[:n]); e == api.OK { // Text or Static that is an object's words
				taken(t, "a beginning", w[:n], want)
				continue
			}
			refused(t, "a beginning", w[:n:n])
			refused(t, "a beginning", w[:n]) // what stands in the spare room is not read
			if n > 0 && n < len(w)-5 {
				refused(t, "an end", w[n:])
			}
		}
	}
	for n := range len(someWords()) {
		refused(t, "a beginning of some", someWords()[:n])
		if n > 0 {
			refused(t, "an end of some", someWords()[n:])
		}
	}
}

// P10.1, R2: another last word than Magic.
func TestReadMagic(t *testing.T) {
	for _, w := range []api.Word{0, 1, Magic - 1, Magic + 1, Magic ^ 1<<35, 0o252525012345, 0o525252, 0o012345, Magic >> 1, api.Mask, math.MaxUint64, ^api.Word(Magic)} {
		refused(t, "no Magic", set(someWords(), -1, w))
		refused(t, "no Magic", []api.Word{0, 0, 0, 0, w})
	}
	for bit := range 36 {
		refused(t, "one bit turned", set(someWords(), -1, Magic^1<<bit))
	}
	refused(t, "Magic first", []api.Word{Magic, 0, 0, 0, 0})
	refused(t, "the map ahead", append([]api.Word{1, 0, 0, 0, Magic}, 5))
	refused(t, "Magic and one more", append(someWords(), 0))
	refused(t, "Magic twice", append(someWords(), Magic))
	refused(t, "words enough, all nought", make([]api.Word, 1024))
}

// P10.1, R2: numbers in the map that do not fit what is there, past each limit, and at all that a word can hold.
func TestReadNumbers(t *testing.T) {
	for k := -5; k <= -2; k++ {
		right := someWords()[len(someWords())+k]
		for _, n := range []api.Word{0, right - 1, right + 1, right + 2, 2 * right, 32, 33, 64, 65, 512, 513, 1023, 1024, 1025, api.MaxOff, api.MaxOff + 1, 1 << 20, 1<<31 - 1, 1 << 31, 1<<31 + right, 1 << 32, 1<<32 + right, 1<<32 - 1,
			1 << 35, 1<<35 + right, api.Mask - right, api.Mask - 1, api.Mask} {
			refused(t, "some", set(someWords(), k, n))
			refused(t, "some, with bits above", set(someWords(), k, n|above))
			refused(t, "nothing", set(lay(api.Object{}), k, n|1))
		}
	}
	all := []api.Word{api.Mask, api.Mask, api.Mask, api.Mask, Magic}
	refused(t, "all at their most", all)
	refused(t, "all at their most, with words ahead", append(make([]api.Word, 1019), all...))
	// what wraps round in all makes no sum right
	refused(t, "wrapped", []api.Word{7, 0, api.Mask, 2, 0, Magic})
	refused(t, "wrapped", []api.Word{7, 2, api.Mask, 0, 0, Magic})
}

// P10.1: one past a limit in the map is refused, with as many words as it tells; at the limit all is well.
func TestReadLimits(t *testing.T) {
	for _, o := range []api.Object{{Text: make([]api.Word, 512)}, {Static: make([]api.Word, 64)}, {Text: []api.Word{0}, Defs: defs(32)}, {Links: links(32)}, big(13)} {
		taken(t, "at the limit", lay(o), o)
	}
	for _, o := range []api.Object{{Text: make([]api.Word, 513)}, {Static: make([]api.Word, 65)}, {Text: []api.Word{0}, Defs: defs(33)}, {Links: links(33)}, big(14), big(64)} {
		refused(t, "past the limit", lay(o))
	}
	refused(t, "far past it", append(make([]api.Word, 1<<20), 0, 0, 0, 0, Magic))
	refused(t, "far past it, and told so", append(make([]api.Word, 1<<18-1), 1<<18-1, 0, 0, 0, Magic))
}

// P10.1: numbers that fit otherwise make another object: Text and Static are told apart by the map alone.
func TestReadOtherwise(t *testing.T) {
	row := []api.Word{1, 2, 3, 4, 5, 0, 0, 0, Magic}
	for text := range 5 {
		row[4], row[5] = api.Word(text), api.Word(4-text)
		taken(t, "moved", row, api.Object{Text: row[:text], Static: row[text:4]})
	}
	row = []api.Word{9, 1, 0o141_000_000_000, 0, 1, 0, 1, 0, Magic}
	taken(t, "a definition", row, api.Object{Text: []api.Word{9}, Defs: []api.Def{{Name: "a"}}})
	row = []api.Word{9, 1, 0o141_000_000_000, 0, 2, 2, 0, 0, Magic}
	taken(t, "the same as Text and Static", row, api.Object{Text: []api.Word{9, 1}, Static: []api.Word{0o141_000_000_000, 0}})
	row = []api.Word{0, 1, 0o141_000_000_000, 0, 0, 0, 0, 1, Magic}
	taken(t, "a link", row, api.Object{Links: []api.Link{{Entry: "a"}}})
	taken(t, "another word of Text", set(someWords(), 1, 6), with(func(o *api.Object) { o.Text[1] = 6 }))
	taken(t, "another word of Static", set(someWords(), 3, 6), with(func(o *api.Object) { o.Static[0] = 6 }))
	taken(t, "another sign", set(someWords(), 9, 0o142_000_000_000), with(func(o *api.Object) { o.Defs[1].Name = "b" }))
	taken(t, "another offset", set(someWords(), 7, 1), with(func(o *api.Object) { o.Defs[0].Off = 1 }))
	taken(t, "another addend", set(someWords(), 18, 1<<18-1), with(func(o *api.Object) { o.Links[0].Add = 1<<18 - 1 }))
}

// P10.1, R2: a word too many or too few, at each place there is.
func TestReadOneMoreOrLess(t *testing.T) {
	w := someWords()
	for at := range w {
		refused(t, "one less", slices.Delete(slices.Clone(w), at, at+1))
		for _, x := range []api.Word{0, 1, 3, Magic, api.Mask, math.MaxUint64} {
			refused(t, "one more", slices.Insert(slices.Clone(w), at, x))
		}
	}
	refused(t, "one more, ahead of nothing", []api.Word{0, 0, 0, 0, 0, Magic})
	refused(t, "one less", []api.Word{0, 0, 0, Magic})
	refused(t, "told, but not there", []api.Word{0, 1, 1, 0, 0, Magic})
	refused(t, "a definition told, but not there", []api.Word{9, 1, 0, 1, 0, Magic})
	refused(t, "a definition without its offset", []api.Word{9, 1, 0o141_000_000_000, 1, 0, 1, 0, Magic})
	refused(t, "a link told, but not there", []api.Word{0, 0, 0, 1, Magic})
	refused(t, "a link without its entry", []api.Word{0, 0, 0, 0, 1, Magic})
	refused(t, "a link without its addend", []api.Word{0, 1, 0o141_000_000_000, 0, 0, 0, 1, Magic})
	// a text whose words would go on into the map
	refused(t, "a name into the map", []api.Word{9, 1, 1, 0, 1, 0, Magic})
	refused(t, "an entry into the map", []api.Word{0, 3, 0, 0, 0, 1, Magic})
}

// P10.1, R2: a name's words that are no text, no name, or have something behind the last byte.
func TestReadTexts(t *testing.T) {
	def := func(text ...api.Word) []api.Word {
		return slices.Concat([]api.Word{9}, text, []api.Word{0, 1, 0, 1, 0, Magic})
	}
	seg := func(text ...api.Word) []api.Word {
		return slices.Concat(text, []api.Word{1, 0o145_000_000_000, 2, 0, 0, 0, 1, Magic})
	}
	entry := func(text ...api.Word) []api.Word {
		return slices.Concat([]api.Word{1, 0o163_000_000_000}, text, []api.Word{2, 0, 0, 0, 1, Magic})
	}
	for _, c := range []struct {
		text []api.Word
		name string
	}{
		{[]api.Word{1, 0o141_000_000_000}, "a"}, {[]api.Word{2, 0o141_142_000_000}, "ab"}, {[]api.Word{3, 0o141_142_143_000}, "abc"},
		{[]api.Word{4, 0o141_142_143_144}, "abcd"}, {[]api.Word{5, 0o141_142_143_144, 0o145_000_000_000}, "abcde"},
		{[]api.Word{1, 0o041_000_000_000}, "!"}, {[]api.Word{1, 0o176_000_000_000}, "~"},
	} {
		taken(t, c.name, def(c.text...), api.Object{Text: []api.Word{9}, Defs: []api.Def{{Name: c.name}}})
		taken(t, c.name, seg(c.text...), api.Object{Links: []api.Link{{Seg: c.name, Entry: "e", Add: 2}}})
		taken(t, c.name, entry(c.text...), api.Object{Links: []api.Link{{Seg: "s", Entry: c.name, Add: 2}}})
	}
	for what, texts := range map[string][][]api.Word{
		"no number":    {{256, 0o141_000_000_000}, {1 << 32, 0o141_000_000_000}, {1<<32 + 1, 0o141_000_000_000}, {1<<35 + 1, 0o141_000_000_000}, {api.Mask, 0o141_000_000_000}, {255, 0o141_000_000_000}},
		"wrong number": {{5, 0o141_142_143_144}, {4, 0o141_142_143_144, 0o145_000_000_000}, {1, 0o141_000_000_000, 0}, {0, 0}},
		"no byte":      {{1, 0o400_000_000_000}, {1, 0o541_000_000_000}, {4, 0o141_142_143_544}, {1, 0o777_000_000_000}},
		"behind":       {{1, 0o141_000_000_001}, {1, 0o141_142_000_000}, {1, 0o141_000_000_400}, {2, 0o141_142_001_000}, {3, 0o141_142_143_144}, {5, 0o141_142_143_144, 0o145_146_000_000}},
		"no name":      {{1, 0}, {1, 0o040_000_000_000}, {1, 0o076_000_000_000}, {1, 0o177_000_000_000}, {1, 0o200_000_000_000}, {1, 0o377_000_000_000}, {2, 0o141_000_000_000}, {4, 0o141_040_142_143}, {5, 0o141_142_143_144, 0o076_000_000_000}},
		"33 signs":     {append([]api.Word{33}, append(slices.Repeat([]api.Word{0o170_170_170_170}, 8), 0o170_000_000_000)...)},
	} {
		for _, text := range texts {
			refused(t, what, def(text...))
			refused(t, what, seg(text...))
			refused(t, what, entry(text...))
		}
	}
	refused(t, "an empty name", def(0))
	refused(t, "an empty entry", entry(0))
	taken(t, "an empty segment", seg(0), api.Object{Links: []api.Link{{Entry: "e", Add: 2}}})
}

// P10.1: bits above the lowest 36 don't count, in each section and in the map, alone and all at once.
func TestReadAbove(t *testing.T) {
	for _, over := range []api.Word{1 << 36, 1 << 37, 1 << 45, 1 << 62, 1 << 63, above} {
		for _, o := range goods() {
			w := lay(o)
			all := slices.Clone(w)
			for at := range w {
				all[at] |= over
				if len(w) < 64 {
					taken(t, "one word", set(w, at, w[at]|over), o)
				}
			}
			taken(t, "all words", all, o)
		}
	}
	refused(t, "all bits", slices.Repeat([]api.Word{math.MaxUint64}, 5))
	refused(t, "Magic above", []api.Word{0, 0, 0, 0, Magic << 28})
}

// R4: the row handed in is not changed, its spare room neither, whether it is read or refused; and is not kept.
func TestReadLeavesRow(t *testing.T) {
	rows := [][]api.Word{nil, someWords(), set(someWords(), -1, 0), set(someWords(), 7, 3), set(someWords(), 2, math.MaxUint64), make([]api.Word, 1024), lay(big(13)), lay(big(14))}
	for _, row := range rows {
		back := append(slices.Clone(row), 11, math.MaxUint64, Magic)
		want := slices.Clone(back)
		o, _ := Read(back[:len(row)])
		if !slices.Equal(back, want) {
			t.Errorf("Read(%o) left %o", row, back)
		}
		kept := tell(o)
		clear(back)
		if tell(o) != kept {
			t.Errorf("Read(%o): its object changed with the row", row)
		}
	}
}

// R4, R5: an object that is answered is new memory, spare room too, and no two of its lists share any.
func TestReadNewMemory(t *testing.T) {
	fill := func(l []api.Word) {
		for i := range l[:cap(l)] {
			l[:cap(l)][i] = math.MaxUint64
		}
	}
	for _, o := range goods() {
		row := append(lay(o), 21, 22, 23)
		want := slices.Clone(row)
		in := row[:len(row)-3]
		one, _ := Read(in)
		two, _ := Read(in)
		static := slices.Clone(one.Static)
		fill(one.Text)
		if !slices.Equal(one.Static, static) {
			t.Errorf("Text of Read(%o) is its Static's memory", in)
		}
		fill(one.Static)
		clear(one.Defs[:cap(one.Defs)])
		clear(one.Links[:cap(one.Links)])
		if !slices.Equal(row, want) {
			t.Errorf("the answer is the row's memory: %o, want %o", row, want)
		}
		if tell(two) != tell(o) {
			t.Errorf("one answer changed another: %+v", two)
		}
		taken(t, "again", in, o)
	}
}
