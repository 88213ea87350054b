package object

import (
	"fmt"
	"strings"
	"testing"

	"concentric/api"
)

// plainName is a second reading of what a name may be.
func plainName(s string) bool {
	for _, b := range []byte(s) {
		if b < '!' || b > '~' || b == '>' {
			return false
		}
	}
	return s != "" && len(s) < 33
}

// plainText is the words of a text, reckoned by products.
func plainText(s string) []api.Word {
	l := []api.Word{api.Word(len(s))}
	for s += "\x00\x00\x00"; len(s) >= 4; s = s[4:] {
		l = append(l, ((api.Word(s[0])*512+api.Word(s[1]))*512+api.Word(s[2]))*512+api.Word(s[3]))
	}
	return l
}

// lay is the words of an object, whether it may be or not.
func lay(o api.Object) []api.Word {
	var l []api.Word
	for _, w := range o.Text {
		l = append(l, w)
	}
	for _, w := range o.Static {
		l = append(l, w)
	}
	for _, d := range o.Defs {
		l = append(append(l, plainText(d.Name)...), api.Word(d.Off))
	}
	for _, k := range o.Links {
		l = append(append(append(l, plainText(k.Seg)...), plainText(k.Entry)...), api.Word(k.Add))
	}
	for _, n := range []int{len(o.Text), len(o.Static), len(o.Defs), len(o.Links)} {
		l = append(l, api.Word(n))
	}
	return append(l, 0o525252012345)
}

// plainMay is a second reading of P10.1: it counts what is wrong.
func plainMay(o api.Object) bool {
	wrong, seen := 0, map[string]int{}
	count := func(bad bool) {
		if bad {
			wrong++
		}
	}
	count(len(o.Text) > 512)
	count(len(o.Static) > 64)
	count(len(o.Defs) > 32)
	count(len(o.Links) > 32)
	for _, l := range [][]api.Word{o.Text, o.Static} {
		for _, w := range l {
			count(w/(1<<18)/(1<<18) != 0)
		}
	}
	for _, d := range o.Defs {
		seen[d.Name]++
		count(!plainName(d.Name))
		count(seen[d.Name] == 2)
		count(d.Off <= -1)
		count(len(o.Text) <= d.Off)
	}
	for _, k := range o.Links {
		count(k.Seg != "" && !plainName(k.Seg))
		count(!plainName(k.Entry))
		count(k.Add <= -1)
		count(k.Add >= 262144)
	}
	count(len(lay(o)) >= 1025)
	return wrong == 0
}

// plainCut takes a row apart by numbers, as far as there are words, and leaves it to the words laid anew whether that was right.
func plainCut(l []api.Word) api.Object {
	var o api.Object
	at := 0
	next := func() api.Word {
		at++
		if at > len(l) {
			return 0
		}
		return l[at-1]
	}
	text := func() string {
		var b []byte
		n := next()
		for len(b) < int(n%512) {
			w := next()
			b = append(b, byte(w/512/512/512), byte(w/512/512), byte(w/512), byte(w))
		}
		return string(b[:n%512])
	}
	m := l[len(l)-5:]
	for range m[0] {
		o.Text = append(o.Text, next())
	}
	for range m[1] {
		o.Static = append(o.Static, next())
	}
	for range m[2] {
		o.Defs = append(o.Defs, api.Def{Name: text(), Off: int(next())})
	}
	for range m[3] {
		o.Links = append(o.Links, api.Link{Seg: text(), Entry: text(), Add: int(next())})
	}
	return o
}

func plainRead(w []api.Word) (api.Object, api.Errno) {
	var low []api.Word
	for _, x := range w {
		low = append(low, x%(1<<36))
	}
	n := len(low)
	if n < 5 || n > 1024 || low[n-5] > 512 || low[n-4] > 64 || low[n-3] > 32 || low[n-2] > 32 {
		return api.Object{}, api.ErrObject
	}
	if o := plainCut(low); plainMay(o) && tell(lay(o)) == tell(low) {
		return o, api.OK
	}
	return api.Object{}, api.ErrObject
}

// tell writes out what there is: of a list nil and empty are one.
func tell(what any) string { return fmt.Sprintf("%+v", what) }

// dice is a row of numbers that hangs on its start alone.
type dice uint64

func (d *dice) roll(n int) int {
	*d = *d*6364136223846793005 + 1442695040888963407
	return int(uint64(*d)>>33) % n
}

// seldom holds once in n times.
func (d *dice) seldom(n int) bool { return d.roll(n) == 0 }

func (d *dice) word() api.Word {
	return api.Word(d.roll(1<<30))<<34 ^ api.Word(d.roll(1<<30))<<15 ^ api.Word(d.roll(1<<15))
}

func (d *dice) words(most int) []api.Word {
	var l []api.Word
	for range d.roll([]int{1, 4, 9, most + 1}[d.roll(4)]) {
		w := []api.Word{0, 1, api.Mask, d.word() & api.Mask}[d.roll(4)]
		if d.seldom(1000) {
			w = d.word()
		}
		l = append(l, w)
	}
	return l
}

func (d *dice) name() string {
	if d.seldom(200) {
		return []string{"", " ", ">", "a>b", "\x7f", "\xff", strings.Repeat("x", 33), strings.Repeat("x", 256)}[d.roll(8)]
	}
	b := make([]byte, 1+d.roll([]int{2, 5, 9, 32}[d.roll(4)]))
	for i := range b {
		b[i] = "abcxyz!~"[d.roll(8)]
	}
	return string(b)
}

// number is within 0 to most, but seldom.
func (d *dice) number(most int) int {
	if d.seldom(100) {
		return []int{-1, most + 1, -1 << 63, 1<<63 - 1, 1 << 36, 1 << 32}[d.roll(6)]
	}
	return d.roll(most + 1)
}

// someObject is often one that may be, and has often few of each.
func someObject(d *dice) api.Object {
	o := api.Object{Text: d.words(515), Static: d.words(66)}
	for range d.roll([]int{1, 3, 8, 34}[d.roll(4)]) {
		o.Defs = append(o.Defs, api.Def{Name: d.name(), Off: d.number(max(0, len(o.Text)-1))})
	}
	for range d.roll([]int{1, 3, 8, 34}[d.roll(4)]) {
		k := api.Link{Entry: d.name(), Add: d.number(api.MaxOff)}
		if d.seldom(2) {
			k.Seg = d.name()
		}
		o.Links = append(o.Links, k)
	}
	return o
}

// someRow is the words of an object with few bits turned, words put in or left out, so that it is often still an object.
func someRow(d *dice) []api.Word {
	row := lay(someObject(d))
	for i := range row {
		if d.seldom(3) {
			row[i] ^= d.word() &^ api.Mask
		}
	}
	at := d.roll(len(row))
	switch d.roll(8) {
	case 0:
		row[at] ^= 1 << d.roll(64)
	case 1:
		row[max(0, len(row)-1-d.roll(6))] += api.Word(d.roll(3)) - 1
	case 2:
		row = append(row[:at], row[at+1:]...)
	case 3:
		row = append(row[:at+1], row[at:]...)
	case 4: // one word more of Text, one less of Static
		row[len(row)-5]++
		row[len(row)-4]--
	}
	return row
}

// turn makes one call of each, of both readings, and tells what each answered.
func turn(d *dice) (got, want string) {
	o, row, name := someObject(d), someRow(d), d.name()
	w, e := Words(o)
	at, ok := Entry(o, name)
	r, f := Read(row)
	got = tell([]any{o, May(o), w, e, at, ok, row, r, f})
	w, e = nil, api.ErrObject
	may := plainMay(o)
	if may {
		w, e = lay(o), api.OK
	}
	at, ok = 0, false
	for i := len(o.Defs) - 1; i >= 0; i-- {
		if o.Defs[i].Name == name {
			at, ok = o.Defs[i].Off, true
		}
	}
	r, f = plainRead(row)
	return got, tell([]any{o, may, w, e, at, ok, row, r, f})
}

// P10.1, P10.2: many objects and rows, against the second reading.
func TestAgainstPlain(t *testing.T) {
	d := dice(1)
	for range 5000 {
		if got, want := turn(&d); got != want {
			t.Fatalf("got %s\nwant %s", got, want)
		}
	}
}

// The calls above reach each answer often enough to tell.
func TestPlainReaches(t *testing.T) {
	d := dice(1)
	mays, reads, entries := [2]int{}, map[api.Errno]int{}, [2]int{}
	for range 2000 {
		o := someObject(&d)
		if plainMay(o) {
			mays[1]++
		} else {
			mays[0]++
		}
		if _, ok := Entry(o, d.name()); ok {
			entries[1]++
		} else {
			entries[0]++
		}
		_, e := plainRead(someRow(&d))
		reads[e]++
	}
	if mays[0] < 200 || mays[1] < 200 || reads[api.OK] < 200 || reads[api.ErrObject] < 200 || entries[0] < 200 || entries[1] < 50 {
		t.Errorf("May %v, Read %v, Entry %v", mays, reads, entries)
	}
}

// R5: the same calls answer the same again.
func TestAgain(t *testing.T) {
	first, second := dice(7), dice(7)
	for range 500 {
		a, _ := turn(&first)
		b, _ := turn(&second)
		if a != b {
			t.Fatalf("%s\nthen %s", a, b)
		}
	}
}
