package object

import (
	"math"
	"slices"
	"strings"
	"testing"

	"concentric/api"
)

const above = api.Word(math.MaxUint64) &^ api.Mask // all that the type can hold beside a word

// some is an object with something in each section, made anew at each call.
func some() api.Object {
	return api.Object{
		Text:   []api.Word{5, api.Mask, 0},
		Static: []api.Word{7, api.Mask},
		Defs:   []api.Def{{Name: "main", Off: 2}, {Name: "a", Off: 0}, {Name: "entry", Off: 0}},
		Links:  []api.Link{{Seg: "", Entry: "a", Add: 3}, {Seg: "other", Entry: "in", Add: api.MaxOff}, {Seg: "abcd", Entry: "efgh", Add: 0}},
	}
}

// someWords are those of some, written out.
func someWords() []api.Word {
	return []api.Word{
		5, 0o777777777777, 0,
		7, 0o777777777777,
		4, 0o155_141_151_156, 2, 1, 0o141_000_000_000, 0, 5, 0o145_156_164_162, 0o171_000_000_000, 0,
		0, 1, 0o141_000_000_000, 3,
		5, 0o157_164_150_145, 0o162_000_000_000, 2, 0o151_156_000_000, 0o777777,
		4, 0o141_142_143_144, 4, 0o145_146_147_150, 0,
		3, 2, 3, 3, 0o525252012345,
	}
}

// with is some, changed.
func with(change func(o *api.Object)) api.Object {
	o := some()
	change(&o)
	return o
}

// defs are n definitions of different names, all at 0.
func defs(n int) []api.Def {
	var l []api.Def
	for i := range n {
		l = append(l, api.Def{Name: "d" + string([]byte{byte('0' + i/10), byte('0' + i%10)})})
	}
	return l
}

func links(n int) []api.Link { return slices.Repeat([]api.Link{{Entry: "e"}}, n) }

// big has 1011 words beside those of Static: so many that Static's number alone tells whether it may be.
func big(static int) api.Object {
	long := strings.Repeat("x", api.MaxName)
	return api.Object{Text: make([]api.Word, 512), Static: make([]api.Word, static), Links: slices.Repeat([]api.Link{{Seg: long, Entry: long}}, 26)}
}

// goods are objects that may be, at each limit too.
func goods() []api.Object {
	long := strings.Repeat("x", api.MaxName)
	l := []api.Object{
		{}, {Text: []api.Word{}, Static: []api.Word{}, Defs: []api.Def{}, Links: []api.Link{}}, some(), big(0), big(12), big(13),
		{Text: []api.Word{0}}, {Text: []api.Word{api.Mask}}, {Static: []api.Word{0}}, {Static: []api.Word{api.Mask}},
		{Text: []api.Word{9}, Defs: defs(1)}, {Links: links(1)}, {Static: []api.Word{1, 2}, Links: links(2)},
		{Text: make([]api.Word, 511)}, {Text: make([]api.Word, 512)}, {Static: make([]api.Word, 63)}, {Static: make([]api.Word, 64)},
		{Text: []api.Word{0}, Defs: defs(31)}, {Text: []api.Word{0}, Defs: defs(32)}, {Links: links(31)}, {Links: links(32)},
		{Text: make([]api.Word, 512), Static: make([]api.Word, 64), Defs: defs(32), Links: links(32)},
		// words of Text and Static that look like a map, or like what stands behind
		{Text: lay(api.Object{})}, {Static: lay(some())}, {Text: lay(some()), Static: lay(api.Object{}), Defs: defs(2), Links: links(2)},
	}
	for _, off := range []int{0, 1, 2} {
		l = append(l, with(func(o *api.Object) { o.Defs[0].Off = off }))
	}
	l = append(l, with(func(o *api.Object) { o.Text, o.Defs[0].Off = make([]api.Word, 512), 511 }))
	for _, name := range []string{"b", "A", "~", "!", "Main", "mains", "mai", "<", "ab", "abc", "abcd", "abcde", long[:31], long} {
		l = append(l, with(func(o *api.Object) { o.Defs[0].Name = name }), with(func(o *api.Object) { o.Links[0].Seg = name }), with(func(o *api.Object) { o.Links[1].Entry = name }))
	}
	l = append(l, with(func(o *api.Object) { o.Links[1].Seg = "" }), with(func(o *api.Object) { o.Links[0] = o.Links[1] }), with(func(o *api.Object) { o.Links[0].Entry = "nowhere" }))
	for _, add := range []int{0, 1, 511, 512, 1024, api.MaxOff - 1, api.MaxOff} {
		l = append(l, with(func(o *api.Object) { o.Links[2].Add = add }))
	}
	return l
}

// bads are objects that may not be, each for one reason; those behind the ones of outside can be laid out all the same.
func bads() []api.Object {
	l := outside()
	for _, n := range []int{513, 514, 1024} {
		l = append(l, api.Object{Text: make([]api.Word, n)})
	}
	l = append(l, api.Object{Static: make([]api.Word, 65)}, api.Object{Static: make([]api.Word, 512)}, api.Object{Text: []api.Word{0}, Defs: defs(33)}, api.Object{Links: links(33)}, api.Object{Links: links(64)}, big(14), big(15), big(64))
	l = append(l, api.Object{Defs: defs(1)}, api.Object{Static: []api.Word{1}, Defs: defs(1)})
	for _, off := range []int{3, 4, 512, api.MaxOff, api.MaxOff + 1, 1<<31 - 1, 1 << 31, 1 << 32, 1<<32 + 1, 1 << 35, api.Mask} {
		l = append(l, with(func(o *api.Object) { o.Defs[0].Off = off }), with(func(o *api.Object) { o.Defs[2].Off = off }))
	}
	l = append(l, with(func(o *api.Object) { o.Text, o.Defs[0].Off = make([]api.Word, 512), 512 }))
	l = append(l, with(func(o *api.Object) { o.Defs[1].Name = "main" }), with(func(o *api.Object) { o.Defs[2].Name = "main" }), with(func(o *api.Object) { o.Defs[2].Name = "a" }), with(func(o *api.Object) { o.Defs[2] = o.Defs[0] }))
	for _, name := range []string{"", " ", ">", "a>", ">a", "a b", "\x00", "\x1f", "\x7f", "\x80", "\xff", "\u00e9", "a\n", strings.Repeat("x", 33), strings.Repeat("x", 255)} {
		l = append(l, with(func(o *api.Object) { o.Defs[0].Name = name }), with(func(o *api.Object) { o.Defs[2].Name = name }), with(func(o *api.Object) { o.Links[0].Entry = name }), with(func(o *api.Object) { o.Links[2].Entry = name }))
		if name != "" {
			l = append(l, with(func(o *api.Object) { o.Links[0].Seg = name }), with(func(o *api.Object) { o.Links[2].Seg = name }))
		}
	}
	for _, add := range []int{api.MaxOff + 1, api.MaxOff + 2, 1 << 19, 1<<31 - 1, 1 << 31, 1 << 32, 1<<32 + 1, 1 << 35, api.Mask} {
		l = append(l, with(func(o *api.Object) { o.Links[0].Add = add }), with(func(o *api.Object) { o.Links[2].Add = add }))
	}
	return l
}

// outside are objects with something that no word could hold, or no text.
func outside() []api.Object {
	var l []api.Object
	for _, w := range []api.Word{1 << 36, 1<<36 + 1, 1 << 40, 1 << 63, above, math.MaxUint64} {
		for at := range 3 {
			l = append(l, with(func(o *api.Object) { o.Text[at] = w }))
		}
		for at := range 2 {
			l = append(l, with(func(o *api.Object) { o.Static[at] = w }))
		}
		l = append(l, api.Object{Text: []api.Word{w}}, api.Object{Static: []api.Word{w}})
	}
	for _, n := range []int{math.MinInt, math.MinInt + 1, -1 << 36, -1<<36 + 1, -1 << 18, -3, -2, -1, 1 << 36, 1<<36 + 1, math.MaxInt - 1, math.MaxInt} {
		l = append(l, with(func(o *api.Object) { o.Defs[0].Off = n }), with(func(o *api.Object) { o.Defs[2].Off = n }), with(func(o *api.Object) { o.Links[0].Add = n }), with(func(o *api.Object) { o.Links[2].Add = n }))
	}
	far := strings.Repeat("x", 1<<16)
	return append(l, with(func(o *api.Object) { o.Defs[1].Name = far }), with(func(o *api.Object) { o.Links[1].Seg = far }), with(func(o *api.Object) { o.Links[1].Entry = far[:256] }))
}

// P10.1: the object that holds nothing, the chapter's example: five words, Magic the last.
func TestNothing(t *testing.T) {
	want := []api.Word{0, 0, 0, 0, 0o525252012345}
	for _, o := range goods()[:2] {
		if w, e := Words(o); !slices.Equal(w, want) || e != api.OK || !May(o) {
			t.Errorf("Words of nothing = %o, %v; May %v", w, e, May(o))
		}
	}
	if o, e := Read(want); tell(o) != tell(api.Object{}) || e != api.OK {
		t.Errorf("Read of nothing = %+v, %v", o, e)
	}
	if Magic != 0o525252012345 {
		t.Errorf("Magic = %o", Magic)
	}
}

// P10.1: objects with words of each section, alone and together, word by word.
func TestWords(t *testing.T) {
	const m = 0o525252012345
	for _, c := range []struct {
		o    api.Object
		want []api.Word
	}{
		{some(), someWords()},
		{api.Object{Text: []api.Word{8, 9}}, []api.Word{8, 9, 2, 0, 0, 0, m}},
		{api.Object{Static: []api.Word{8, 9, 10}}, []api.Word{8, 9, 10, 0, 3, 0, 0, m}},
		{api.Object{Text: []api.Word{8}, Static: []api.Word{9}}, []api.Word{8, 9, 1, 1, 0, 0, m}},
		{api.Object{Text: []api.Word{8, 9}, Defs: []api.Def{{Name: "a", Off: 1}}}, []api.Word{8, 9, 1, 0o141_000_000_000, 1, 2, 0, 1, 0, m}},
		{api.Object{Text: []api.Word{8, 9}, Defs: []api.Def{{Name: "b", Off: 1}, {Name: "a", Off: 0}}},
			[]api.Word{8, 9, 1, 0o142_000_000_000, 1, 1, 0o141_000_000_000, 0, 2, 0, 2, 0, m}},
		{api.Object{Links: []api.Link{{Seg: "s", Entry: "e", Add: 6}}}, []api.Word{1, 0o163_000_000_000, 1, 0o145_000_000_000, 6, 0, 0, 0, 1, m}},
		{api.Object{Links: []api.Link{{Entry: "abcde", Add: 6}, {Seg: "abcd", Entry: "e"}}},
			[]api.Word{0, 5, 0o141_142_143_144, 0o145_000_000_000, 6, 4, 0o141_142_143_144, 1, 0o145_000_000_000, 0, 0, 0, 0, 2, m}},
	} {
		if w, e := Words(c.o); !slices.Equal(w, c.want) || e != api.OK {
			t.Errorf("Words(%+v) = %o, %v, want %o", c.o, w, e, c.want)
		}
		if o, e := Read(c.want); tell(o) != tell(c.o) || e != api.OK {
			t.Errorf("Read(%o) = %+v, %v, want %+v", c.want, o, e, c.o)
		}
	}
}

// P10.1: what may be, at each limit too, has words, and these in their order.
func TestMay(t *testing.T) {
	for _, o := range goods() {
		w, e := Words(o)
		if !May(o) || !slices.Equal(w, lay(o)) || e != api.OK {
			t.Errorf("%+v: May %v, Words %o, %v", o, May(o), w, e)
		}
	}
}

// P10.1, R1, R2: what may not be, one past each limit too, has none.
func TestMayNot(t *testing.T) {
	for _, o := range bads() {
		if w, e := Words(o); May(o) || len(w) != 0 || e != api.ErrObject {
			t.Errorf("%+v: May %v, Words %o, %v", o, May(o), w, e)
		}
	}
}

// P10.1: each number of something has one limit, whatever else there is.
func TestLimits(t *testing.T) {
	if api.MaxText != 512 || api.MaxData != 64 || api.MaxDefs != 32 || api.MaxLinks != 32 || api.MaxOff != 262143 || api.MaxSize != 1024 {
		t.Fatal("limits")
	}
	for _, c := range []struct {
		what string
		most int
		of   func(n int) api.Object
	}{
		{"Text", 512, func(n int) api.Object { return api.Object{Text: make([]api.Word, n)} }},
		{"Static", 64, func(n int) api.Object { return api.Object{Static: make([]api.Word, n)} }},
		{"Defs", 32, func(n int) api.Object { return api.Object{Text: []api.Word{0}, Defs: defs(n)} }},
		{"Links", 32, func(n int) api.Object { return api.Object{Links: links(n)} }},
		{"Text beside others", 512, func(n int) api.Object { return with(func(o *api.Object) { o.Text = make([]api.Word, n) }) }},
		{"Static beside others", 64, func(n int) api.Object { return with(func(o *api.Object) { o.Static = make([]api.Word, n) }) }},
		{"Defs beside others", 32, func(n int) api.Object { return with(func(o *api.Object) { o.Defs = defs(n) }) }},
		{"Links beside others", 32, func(n int) api.Object { return with(func(o *api.Object) { o.Links = links(n) }) }},
	} {
		for _, n := range []int{c.most - 1, c.most, c.most + 1, c.most + 2, 2*c.most + 1, 5000} {
			w, e := Words(c.of(n))
			if May(c.of(n)) != (n <= c.most) || (e == api.OK) != (n <= c.most) || (e == api.ErrObject) != (n > c.most) || (len(w) > 0) != (n <= c.most) {
				t.Errorf("%s: %d: May %v, %d words, %v", c.what, n, May(c.of(n)), len(w), e)
			}
		}
	}
}

// P10.1: all of the words, names and map too, are at most MaxSize, whichever section has the one too many.
func TestSize(t *testing.T) {
	for _, c := range []struct {
		what string
		more func(o *api.Object)
		n    int
	}{
		{"nothing", func(o *api.Object) {}, 0},
		{"a word of Static", func(o *api.Object) { o.Static = append(o.Static, 0) }, 1},
		{"a definition", func(o *api.Object) { o.Defs = defs(1) }, 3},
		{"a longer definition", func(o *api.Object) { o.Defs = []api.Def{{Name: "abcde"}} }, 4},
		{"a link", func(o *api.Object) { o.Links = append(o.Links, api.Link{Entry: "e"}) }, 4},
		{"a link with a segment", func(o *api.Object) { o.Links = append(o.Links, api.Link{Seg: "s", Entry: "e"}) }, 5},
		{"a link with longer names", func(o *api.Object) { o.Links = append(o.Links, api.Link{Seg: "abcde", Entry: "abcde"}) }, 7},
		{"a name of fewer words", func(o *api.Object) { o.Links[0].Entry = strings.Repeat("x", 28) }, -1},
		{"a name of as many words", func(o *api.Object) { o.Links[0].Entry = strings.Repeat("x", 29) }, 0},
		{"a link to itself", func(o *api.Object) { o.Links[0].Seg = "" }, -8},
		{"a word of Text less", func(o *api.Object) { o.Text = o.Text[1:] }, -1},
	} {
		for static := range 30 {
			o := big(static)
			c.more(&o)
			want := 1011 + static + c.n
			w, e := Words(o)
			if len(lay(o)) != want {
				t.Fatalf("%s beside %d: %d words laid, want %d", c.what, static, len(lay(o)), want)
			}
			if want <= 1024 && (len(w) != want || e != api.OK || !May(o)) {
				t.Errorf("%s beside %d: %d words, %v, want %d", c.what, static, len(w), e, want)
			}
			if want > 1024 && (len(w) != 0 || e != api.ErrObject || May(o)) {
				t.Errorf("%s beside %d: %d words, %v, want ErrObject", c.what, static, len(w), e)
			}
		}
	}
}

// P10.2, R2: where a name is, and names that are not there.
func TestEntry(t *testing.T) {
	for _, c := range []struct {
		o    api.Object
		name string
		at   int
		ok   bool
	}{
		{some(), "main", 2, true}, {some(), "a", 0, true}, {some(), "entry", 0, true},
		{some(), "in", 0, false}, {some(), "other", 0, false}, {some(), "", 0, false}, {some(), "Main", 0, false}, {some(), "mai", 0, false},
		{some(), "main ", 0, false}, {some(), "main\x00", 0, false}, {some(), "a>b", 0, false}, {some(), strings.Repeat("x", 1<<16), 0, false},
		{api.Object{}, "", 0, false}, {api.Object{}, "main", 0, false}, {api.Object{Text: []api.Word{1}, Links: links(1)}, "e", 0, false},
		// of several the first, by its place in the list alone
		{api.Object{Defs: []api.Def{{Name: "b", Off: 9}, {Name: "a", Off: 7}, {Name: "a", Off: 3}, {Name: "a", Off: 8}}}, "a", 7, true},
		{with(func(o *api.Object) { o.Defs[1].Name = "main" }), "main", 2, true},
		{with(func(o *api.Object) { o.Defs[0].Name = "entry" }), "entry", 2, true},
		// what may not be is asked all the same
		{api.Object{Defs: []api.Def{{Name: "a", Off: -5}}}, "a", -5, true},
		{api.Object{Defs: []api.Def{{Name: "a", Off: math.MaxInt}}}, "a", math.MaxInt, true},
		{api.Object{Defs: []api.Def{{Name: "a", Off: math.MinInt}}}, "a", math.MinInt, true},
		{api.Object{Defs: []api.Def{{Name: "a b", Off: 4}, {Name: "", Off: 6}}}, "", 6, true},
		{api.Object{Defs: []api.Def{{Name: "a b", Off: 4}, {Name: "", Off: 6}}}, "a b", 4, true},
		{api.Object{Defs: append(defs(99), api.Def{Name: "last", Off: 1000})}, "last", 1000, true},
		{with(func(o *api.Object) { o.Text[0] = math.MaxUint64 }), "main", 2, true},
	} {
		if at, ok := Entry(c.o, c.name); at != c.at || ok != c.ok {
			t.Errorf("Entry(%+v, %q) = %d, %v, want %d, %v", c.o, c.name, at, ok, c.at, c.ok)
		}
	}
	for i, d := range defs(32) {
		l := defs(32)
		l[i].Off = 40 + i
		if at, ok := Entry(api.Object{Defs: l}, d.Name); at != 40+i || !ok {
			t.Errorf("Entry of definition %d = %d, %v", i, at, ok)
		}
	}
}

// roomy is the object with spare room behind each of its lists, and all of these lists, room too.
func roomy(o api.Object) (api.Object, api.Object) {
	all := api.Object{
		Text:   append(slices.Clone(o.Text), 11, math.MaxUint64),
		Static: append(slices.Clone(o.Static), 12, math.MaxUint64),
		Defs:   append(slices.Clone(o.Defs), api.Def{Name: "spare", Off: 13}),
		Links:  append(slices.Clone(o.Links), api.Link{Seg: "spare", Entry: "spare", Add: 14}),
	}
	return api.Object{Text: all.Text[:len(o.Text)], Static: all.Static[:len(o.Static)], Defs: all.Defs[:len(o.Defs)], Links: all.Links[:len(o.Links)]}, all
}

// R4: an object that is handed in is not changed, spare room neither, whether it may be or not.
func TestObjectStays(t *testing.T) {
	for _, o := range append(goods(), bads()...) {
		in, all := roomy(o)
		want := tell(all)
		May(in)
		Words(in)
		Entry(in, "main")
		Entry(in, "spare")
		if got := tell(all); got != want {
			t.Errorf("left %s, want %s", got, want)
		}
	}
}

// R4, R5: words that are answered are new memory, spare room too, and are answered again the same.
func TestWordsNewMemory(t *testing.T) {
	for _, o := range goods() {
		in, all := roomy(o)
		want := tell(all)
		one, _ := Words(in)
		two, _ := Words(in)
		for i := range one[:cap(one)] {
			one[:cap(one)][i] = math.MaxUint64
		}
		three, e := Words(in)
		if !slices.Equal(two, lay(o)) || !slices.Equal(three, lay(o)) || e != api.OK {
			t.Errorf("Words(%+v) changed with what was answered before", o)
		}
		if got := tell(all); got != want {
			t.Errorf("the answer is the object's memory: %s, want %s", got, want)
		}
		clear(all.Text)
		clear(all.Static)
		if !slices.Equal(two, lay(o)) {
			t.Errorf("Words(%+v) changed with the object", o)
		}
	}
}
