package letters

import (
	"math"
	"slices"
	"strings"
	"testing"

	"concentric/api"
)

const above = api.Word(math.MaxUint64) &^ api.Mask // all that the type can hold beside a word

// texts are of each length up to nine, so that the last word is filled in each way there is, twice; then bytes at their ends, and what is no UTF-8.
func texts() []string {
	l := []string{"", "ab", "\x00", "\x7f", "\x80", "\xff", "\x00\x00\x00\x00\x00", "\xff\xff\xff\xff\xff", "\x00\x7f\x80\xff", "\xff\x80\x7f\x00\xfe",
		"a\x00", "a\x00\x00\x00", "\x00a", "abcd\x00", "abcd\x00\x00\x00\x00", "\xc3", "\xc3\xa4", "a\xc3", "\xe2\x82", "\xe2\x82\xac", "\xed\xa0\x80", "\xf8\x88\x80\x80\x80", "\xef\xbf\xbd",
		strings.Repeat("z", 252), strings.Repeat("y", 253), strings.Repeat("x", 254), strings.Repeat("w", 255), strings.Repeat("\xff", 255), strings.Repeat("\x00", 255)}
	for n := range 10 {
		l = append(l, "abcdefghi"[:n], "\xff\xfe\xfd\xfc\xfb\xfa\xf9\xf8\xf7"[:n])
	}
	all := ""
	for b := range 255 {
		all += string([]byte{byte(255 - b)})
	}
	return append(l, all)
}

// P9.1: the words of a text, written out; the second row is the chapter's example.
func TestWords(t *testing.T) {
	for _, c := range []struct {
		s    string
		want []api.Word
	}{
		{"", []api.Word{0}},
		{"ab", []api.Word{2, 0o141_142_000_000}},
		{"a", []api.Word{1, 0o141_000_000_000}},
		{"abc", []api.Word{3, 0o141_142_143_000}},
		{"abcd", []api.Word{4, 0o141_142_143_144}},
		{"abcde", []api.Word{5, 0o141_142_143_144, 0o145_000_000_000}},
		{"abcdef", []api.Word{6, 0o141_142_143_144, 0o145_146_000_000}},
		{"abcdefg", []api.Word{7, 0o141_142_143_144, 0o145_146_147_000}},
		{"abcdefgh", []api.Word{8, 0o141_142_143_144, 0o145_146_147_150}},
		{"abcdefghi", []api.Word{9, 0o141_142_143_144, 0o145_146_147_150, 0o151_000_000_000}},
		{"\x00", []api.Word{1, 0}},
		{"\x7f", []api.Word{1, 0o177_000_000_000}},
		{"\x80", []api.Word{1, 0o200_000_000_000}},
		{"\xff", []api.Word{1, 0o377_000_000_000}},
		{"\x00\x7f\x80\xff", []api.Word{4, 0o000_177_200_377}},
		{"\xff\xff\xff\xff\xff", []api.Word{5, 0o377_377_377_377, 0o377_000_000_000}},
		{"\x00\x00\x00\x00\x00", []api.Word{5, 0, 0}},
		{"\xe2\x82\xac", []api.Word{3, 0o342_202_254_000}},  // one sign, three bytes
		{"\xc3a\xed\xa0", []api.Word{4, 0o303_141_355_240}}, // no UTF-8
		{"a\x00\x00\x00", []api.Word{4, 0o141_000_000_000}}, // noughts at the end are bytes, too
		{"abcd\x00", []api.Word{5, 0o141_142_143_144, 0}},   // and have a word, if they need one
	} {
		if w, e := Words(c.s); !slices.Equal(w, c.want) || e != api.OK {
			t.Errorf("Words(%q) = %o, %v, want %o", c.s, w, e, c.want)
		}
		if s, n, e := Read(c.want); s != c.s || n != len(c.want) || e != api.OK {
			t.Errorf("Read(%o) = %q, %d, %v, want %q", c.want, s, n, e, c.s)
		}
	}
}

// P9.1: each byte at each place has the nine bits of that place, and no others are set.
func TestPlaces(t *testing.T) {
	for place, unit := range []api.Word{1 << 27, 1 << 18, 1 << 9, 1} {
		for b := range 256 {
			s := strings.Repeat("\x00", place) + string([]byte{byte(b)})
			want := []api.Word{api.Word(place) + 1, api.Word(b) * unit}
			if w, e := Words(s); !slices.Equal(w, want) || e != api.OK {
				t.Fatalf("Words(%q) = %o, %v, want %o", s, w, e, want)
			}
			if r, n, e := Read(want); r != s || n != 2 || e != api.OK {
				t.Fatalf("Read(%o) = %q, %d, %v, want %q", want, r, n, e, s)
			}
		}
	}
}

// P9.1, R2: 255 bytes are well, 256 are not; bytes count, not signs.
func TestLongest(t *testing.T) {
	for _, n := range []int{252, 253, 254, 255} {
		w, e := Words(strings.Repeat("z", n))
		if want := 1 + (n+3)/4; len(w) != want || e != api.OK || w[0] != api.Word(n) {
			t.Errorf("Words of %d bytes: %d words, %v, want %d", n, len(w), e, want)
		}
	}
	w, _ := Words(strings.Repeat("z", 255))
	if w[63] != 0o172_172_172_172 || w[64] != 0o172_172_172_000 {
		t.Errorf("Words of 255 bytes ends with %o", w[63:])
	}
	for _, s := range []string{strings.Repeat("z", 256), strings.Repeat("\x00", 256), strings.Repeat("\xc3\xa4", 128), strings.Repeat("z", 257),
		strings.Repeat("z", 511), strings.Repeat("z", 512), strings.Repeat("z", 1<<16), strings.Repeat("z", 1<<16+5)} {
		if w, e := Words(s); len(w) != 0 || e != api.ErrArg {
			t.Errorf("Words of %d bytes: %d words, %v", len(s), len(w), e)
		}
	}
	if w, e := Words(strings.Repeat("\xc3\xa4", 127)); len(w) != 65 || e != api.OK {
		t.Errorf("Words of 127 signs of two bytes: %d words, %v", len(w), e)
	}
}

// P9.1: Read finds each text again, whatever stands behind its words.
func TestReadAgain(t *testing.T) {
	for _, s := range texts() {
		w, e := Words(s)
		if e != api.OK {
			t.Fatalf("Words(%q): %v", s, e)
		}
		for _, behind := range [][]api.Word{nil, {0}, {1}, {api.Mask}, {math.MaxUint64}, {256}, {1 << 35, 7}, {0, 0, 0, 9}, w} {
			row := append(slices.Clone(w), behind...)
			if r, n, e := Read(row); r != s || n != len(w) || e != api.OK {
				t.Errorf("Read(%o) = %q, %d, %v, want %q, %d", row, r, n, e, s, len(w))
			}
		}
	}
}

// P9.1, R2: no words at all, and rows that end ahead of the text.
func TestReadShort(t *testing.T) {
	refused(t, nil)
	refused(t, []api.Word{})
	for _, s := range texts() {
		w, _ := Words(s)
		for n := range w {
			refused(t, w[:n:n])
			refused(t, w[:n]) // what stands in the spare room is not read
		}
	}
}

// P9.1, R2: a number above 255, with words enough behind it for any that its lowest bits could tell.
func TestReadNumber(t *testing.T) {
	for _, n := range []api.Word{256, 257, 260, 511, 512, 1<<15 + 4, 1 << 16, 1<<16 + 1, 1<<31 - 1, 1 << 31, 1<<31 + 1, 1 << 32, 1<<32 + 4, 1 << 35, 1<<35 + 1, api.Mask - 255, api.Mask} {
		for _, over := range []api.Word{0, 1 << 36, 1 << 63, above} {
			for _, rest := range []int{0, 1, 64, 200, 1024} {
				row := make([]api.Word, 1+rest)
				row[0] = n | over
				refused(t, row)
			}
		}
	}
	row := make([]api.Word, 65)
	row[0] = 255
	if s, n, e := Read(row); s != strings.Repeat("\x00", 255) || n != 65 || e != api.OK {
		t.Errorf("Read of 255 bytes: %d bytes, %d, %v", len(s), n, e)
	}
}

// P9.1, R2: nine bits above 255 are no byte, at each place of each word.
func TestReadNoByte(t *testing.T) {
	for _, s := range texts() {
		w, _ := Words(s)
		for i := range len(s) {
			for _, v := range []api.Word{256, 257, 256 + 'a', 383, 384, 510, 511} {
				refused(t, put(w, i, v))
			}
			row := put(w, i, 255)
			want := s[:i] + "\xff" + s[i+1:]
			if r, n, e := Read(row); r != want || n != len(w) || e != api.OK {
				t.Errorf("Read(%o) = %q, %d, %v, want %q", row, r, n, e, want)
			}
		}
	}
}

// P9.1, R2: what is not 0 behind the last byte, at each place where something may be left, and each of its bits.
func TestReadNotEmptyBehind(t *testing.T) {
	places := 0
	for _, s := range texts() {
		w, _ := Words(s)
		for i := len(s); i < 4*(len(w)-1); i++ {
			places++
			for bit := range 9 {
				refused(t, put(w, i, 1<<bit))
				refused(t, append(put(w, i, 1<<bit), 0, 7))
			}
			refused(t, put(w, i, 255))
			refused(t, put(w, i, 511))
		}
	}
	if places == 0 {
		t.Error("no place is left in any text")
	}
	if _, _, e := Read([]api.Word{1, 0o141_000_000_000}); e != api.OK {
		t.Errorf("with nothing behind it: %v", e)
	}
}

// P9.1: bits above the lowest 36 don't count, in the first word and in the others, alone and all at once.
func TestReadAbove(t *testing.T) {
	for _, s := range texts() {
		w, _ := Words(s)
		for _, over := range []api.Word{1 << 36, 1 << 37, 1 << 44, 1 << 45, 1 << 62, 1 << 63, above} {
			all := slices.Clone(w)
			for i := range w {
				all[i] |= over
				one := slices.Clone(w)
				one[i] |= over
				if r, n, e := Read(one); r != s || n != len(w) || e != api.OK {
					t.Errorf("Read(%o) = %q, %d, %v, want %q", one, r, n, e, s)
				}
			}
			if r, n, e := Read(all); r != s || n != len(w) || e != api.OK {
				t.Errorf("Read(%o) = %q, %d, %v, want %q", all, r, n, e, s)
			}
		}
	}
	refused(t, []api.Word{math.MaxUint64, math.MaxUint64})
	refused(t, []api.Word{above | 1, math.MaxUint64})
	refused(t, []api.Word{above | 1, above | 0o141_000_000_001})
	refused(t, []api.Word{above | 1, above | 0o400_000_000_000})
	refused(t, []api.Word{above | 1})
}

// R4: the row handed in is not changed, its spare room neither, whether it is read or refused.
func TestReadChangesNothing(t *testing.T) {
	rows := [][]api.Word{{0}, {1 << 36, 9}, {1, 0o141_000_000_000, 5}, {above | 2, above | 0o141_142_000_000, 8}, {4, 0, 0},
		{256, 1}, {1, 1}, {1, 0o400_000_000_000}, {5, 0}, {math.MaxUint64, math.MaxUint64}}
	for _, row := range rows {
		back := append(slices.Clone(row), 11, math.MaxUint64, 13)
		want := slices.Clone(back)
		s, _, _ := Read(back[:len(row)])
		if !slices.Equal(back, want) {
			t.Errorf("Read(%o) left %o", row, back)
		}
		kept := strings.Clone(s)
		clear(back)
		if s != kept {
			t.Errorf("Read(%o): its text changed with the row", row)
		}
	}
}

// R4, R5: each row answered is new memory, spare room too, and answered again the same.
func TestWordsNewMemory(t *testing.T) {
	for _, s := range texts() {
		first, _ := Words(s)
		want := slices.Clone(first)
		for i, w := range first[:cap(first)] {
			if i >= len(first) && w != 0 {
				t.Errorf("Words(%q) has %o in its spare room", s, w)
			}
			first[:cap(first)][i] = math.MaxUint64
		}
		second, e := Words(s)
		if !slices.Equal(second, want) || e != api.OK {
			t.Errorf("Words(%q) again = %o, %v, want %o", s, second, e, want)
		}
		if &first[0] == &second[0] {
			t.Errorf("Words(%q) answered the same row twice", s)
		}
	}
}

// put is a new row with v in the nine bits of byte i, reckoned by products.
func put(w []api.Word, i int, v api.Word) []api.Word {
	row := slices.Clone(w)
	unit := api.Word(1)
	for range 3 - i%4 {
		unit *= 512
	}
	at := 1 + i/4
	row[at] += v*unit - row[at]/unit%512*unit
	return row
}

func refused(t *testing.T, row []api.Word) {
	t.Helper()
	if s, n, e := Read(row); s != "" || n != 0 || e != api.ErrForm {
		t.Errorf("Read(%o) = %q, %d, %v, want a refusal", row, s, n, e)
	}
}
