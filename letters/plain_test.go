package letters

import (
	"fmt"
	"testing"

	"concentric/api"
)

// plainWords is a second reading of the chapter: it takes four bytes off the text at a time, with noughts for those that are not there, and reckons by products.
func plainWords(s string) ([]api.Word, api.Errno) {
	if len(s) >= 256 {
		return nil, api.ErrArg
	}
	l := []api.Word{api.Word(len(s))}
	for left := []byte(s); len(left) > 0; left = left[min(4, len(left)):] {
		four := [4]byte{}
		copy(four[:], left)
		w := api.Word(0)
		for _, b := range four {
			w = w*512 + api.Word(b)
		}
		l = append(l, w)
	}
	return l, api.OK
}

// plainRead takes what stands there for bytes, whatever it is, and holds the words of that text against the row.
func plainRead(w []api.Word) (string, int, api.Errno) {
	var low []api.Word
	for _, x := range w {
		low = append(low, x%(1<<36))
	}
	if len(low) == 0 || low[0] >= 256 {
		return "", 0, api.ErrForm
	}
	var bytes []byte
	for _, x := range low[1:] {
		bytes = append(bytes, byte(x/512/512/512%256), byte(x/512/512%256), byte(x/512%256), byte(x%256))
	}
	if len(bytes) < int(low[0]) {
		return "", 0, api.ErrForm
	}
	s := string(bytes[:low[0]])
	own, _ := plainWords(s)
	for i, x := range own {
		if low[i] != x {
			return "", 0, api.ErrForm
		}
	}
	return s, len(own), api.OK
}

// dice is a row of numbers that hangs on its start alone.
type dice uint64

func (d *dice) roll(n int) int {
	*d = *d*6364136223846793005 + 1442695040888963407
	return int(uint64(*d)>>33) % n
}

func (d *dice) word() api.Word {
	return api.Word(d.roll(1<<30))<<34 ^ api.Word(d.roll(1<<30))<<15 ^ api.Word(d.roll(1<<15))
}

// someText is of any bytes, often short, and seldom too long.
func someText(d *dice) string {
	b := make([]byte, d.roll([]int{2, 5, 10, 70, 255, 262}[d.roll(6)]+1))
	for i := range b {
		b[i] = []byte{0, 'a', 127, 128, 255, byte(d.roll(256))}[d.roll(6)]
	}
	return string(b)
}

// someRow is the words of a text with few bits turned, cut or lengthened, so that it is often still a text.
func someRow(d *dice) []api.Word {
	row, _ := plainWords(someText(d))
	for range d.roll(3) {
		row = append(row, d.word())
	}
	if len(row) > 0 && d.roll(4) == 0 {
		row = row[:d.roll(len(row)+1)]
	}
	for i := range row {
		if d.roll(2) == 0 {
			row[i] ^= d.word() &^ api.Mask
		}
	}
	if len(row) > 0 && d.roll(2) == 0 {
		row[d.roll(len(row))] ^= 1 << d.roll(64)
	}
	if len(row) > 0 && d.roll(8) == 0 {
		row[0] += api.Word(d.roll(9)) - 4
	}
	return row
}

// turn makes one call of each, of both readings, and tells what each answered.
func turn(d *dice) (got, want string) {
	s, row := someText(d), someRow(d)
	w, e := Words(s)
	got = fmt.Sprintf("Words(%q): %o, %d\n", s, w, e)
	w, e = plainWords(s)
	want = fmt.Sprintf("Words(%q): %o, %d\n", s, w, e)
	r, n, e := Read(row)
	got += fmt.Sprintf("Read(%o): %q, %d, %d\n", row, r, n, e)
	r, n, e = plainRead(row)
	return got, want + fmt.Sprintf("Read(%o): %q, %d, %d\n", row, r, n, e)
}

// P9.1: many texts and rows, against the second reading.
func TestAgainstPlain(t *testing.T) {
	d := dice(1)
	for range 20000 {
		if got, want := turn(&d); got != want {
			t.Fatalf("got %swant %s", got, want)
		}
	}
}

// The calls above reach each answer often enough to tell.
func TestPlainReaches(t *testing.T) {
	d := dice(1)
	words, reads := map[api.Errno]int{}, map[api.Errno]int{}
	for range 2000 {
		_, e := plainWords(someText(&d))
		words[e]++
		_, _, e = plainRead(someRow(&d))
		reads[e]++
	}
	if words[api.OK] < 50 || words[api.ErrArg] < 5 || reads[api.OK] < 200 || reads[api.ErrForm] < 200 {
		t.Errorf("Words %v, Read %v", words, reads)
	}
}

// R5: the same calls answer the same again.
func TestAgain(t *testing.T) {
	first, second := dice(7), dice(7)
	for range 2000 {
		a, _ := turn(&first)
		b, _ := turn(&second)
		if a != b {
			t.Fatalf("%sthen %s", a, b)
		}
	}
}
