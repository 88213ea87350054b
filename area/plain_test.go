package area

import (
	"fmt"
	"math"
	"strings"
	"testing"

	"concentric/api"
)

// cell is one word of an area, and the number of the room that it is of, 0 where it is free.
type cell struct {
	room int
	w    uint64
}

// plain is a second reading of the chapter: the words in a row, gone through at each call.
type plain struct {
	cells []cell
	last  int
}

// begins tells which room has its first word there.
func (p *plain) begins(base int) int {
	if base < 0 || base >= len(p.cells) {
		return 0
	}
	room := p.cells[base].room
	if base > 0 && p.cells[base-1].room == room {
		return 0
	}
	return room
}

// isFree tells if so many words from there on are there, and of no room.
func (p *plain) isFree(base, n int) bool {
	if n > len(p.cells)-base {
		return false
	}
	for _, c := range p.cells[base : base+n] {
		if c.room != 0 {
			return false
		}
	}
	return true
}

func (p *plain) take(n int) string {
	if n < 1 {
		return "0 ErrArg"
	}
	for base := range p.cells {
		if !p.isFree(base, n) {
			continue
		}
		p.last++
		for off := range n {
			p.cells[base+off] = cell{room: p.last}
		}
		return fmt.Sprint(base, " OK")
	}
	return "0 ErrFull"
}

// count is how many words a room has; 0 of none.
func (p *plain) count(room int) int {
	n := 0
	for _, c := range p.cells {
		if room != 0 && c.room == room {
			n++
		}
	}
	return n
}

func (p *plain) give(base int) string {
	room := p.begins(base)
	if room == 0 {
		return "false"
	}
	for n := range p.cells {
		if p.cells[n].room == room {
			p.cells[n].room = 0
		}
	}
	return "true"
}

// at answers the word that a Read or Write reaches.
func (p *plain) at(base, off int) (*cell, string) {
	room := p.begins(base)
	switch {
	case room == 0:
		return &cell{}, "ErrNone"
	case off < 0, off >= p.count(room):
		return &cell{}, "ErrBound"
	}
	return &p.cells[base+off], "OK"
}

func (p *plain) write(base, off int, w uint64) string {
	c, said := p.at(base, off)
	c.w = w << 28 >> 28
	return said
}

// asked is what Read, Size and Used answer.
func (p *plain) asked(base, off int) string {
	c, said := p.at(base, off)
	used := 0
	for _, c := range p.cells {
		if c.room != 0 {
			used++
		}
	}
	return fmt.Sprint(c.w, " ", p.count(p.begins(base)), " ", used, " ", said)
}

func asked(a *Area, base, off int) string {
	w, e := a.Read(base, off)
	return fmt.Sprint(w, " ", a.Size(base), " ", a.Used(), " ", told(e))
}

func told(e api.Errno) string {
	switch e {
	case api.OK:
		return "OK"
	case api.ErrArg:
		return "ErrArg"
	case api.ErrNone:
		return "ErrNone"
	case api.ErrFull:
		return "ErrFull"
	case api.ErrBound:
		return "ErrBound"
	}
	return "another error"
}

// pair is what one call answers, and what the second reading does.
type pair struct{ name, got, want string }

func takeBoth(a *Area, p *plain, n int) pair {
	base, e := a.Take(n)
	return pair{fmt.Sprintf("Take(%d)", n), fmt.Sprint(base, " "+told(e)), p.take(n)}
}

func giveBoth(a *Area, p *plain, base int) pair {
	return pair{fmt.Sprintf("Give(%d)", base), fmt.Sprint(a.Give(base)), p.give(base)}
}

func writeBoth(a *Area, p *plain, base, off int, w uint64) pair {
	return pair{fmt.Sprintf("Write(%d, %d, %d)", base, off, w), told(a.Write(base, off, api.Word(w))), p.write(base, off, w)}
}

func askBoth(a *Area, p *plain, base, off int) pair {
	return pair{fmt.Sprintf("ask(%d, %d)", base, off), asked(a, base, off), p.asked(base, off)}
}

// agree tells in which row of calls the two readings part.
func agree(t *testing.T, row int, x pair) {
	t.Helper()
	if x.got != x.want {
		t.Fatalf("row %d: %s = %s, want %s", row, x.name, x.got, x.want)
	}
}

// both are an area of n words and its second reading.
func both(n int) (*Area, *plain) { return New(n), &plain{cells: make([]cell, max(n, 0))} }

// dice is a row of numbers that hangs on its start alone.
type dice uint64

func (d *dice) roll(n int) int {
	*d = *d*6364136223846793005 + 1442695040888963407
	return int(uint64(*d)>>33) % n
}

// near is a number from below 0 to past n, or, now and then, far away.
func (d *dice) near(n int) int {
	if d.roll(20) == 0 {
		return []int{math.MinInt, math.MaxInt, -1 << 32, 1 << 32}[d.roll(4)]
	}
	return d.roll(n+4) - 2
}

// base is one where a room begins, if there is any, or, now and then, any number.
func (d *dice) base(p *plain) int {
	var bases []int
	for base := range p.cells {
		if p.begins(base) != 0 {
			bases = append(bases, base)
		}
	}
	if len(bases) == 0 || d.roll(4) == 0 {
		return d.near(len(p.cells))
	}
	return bases[d.roll(len(bases))]
}

func (d *dice) word() uint64 {
	return uint64(d.roll(1<<31))<<33 | uint64(d.roll(1<<31))<<3 | uint64(d.roll(8))
}

// turn makes one call of both, with rooms of up to longest words, given back as often as gives says.
func turn(d *dice, a *Area, p *plain, longest, gives int) pair {
	switch n := d.roll(20); {
	case n < gives:
		return giveBoth(a, p, d.base(p))
	case n < 12:
		return takeBoth(a, p, d.near(longest-1))
	}
	return writeBoth(a, p, d.base(p), d.near(longest), d.word())
}

// P15.1, R1 to R3, R5, R6: long rows of calls against the second reading, in areas and with rooms of several lengths.
func TestAgainstPlain(t *testing.T) {
	seen := map[string]int{}
	for start := range 120 {
		d := dice(start)
		n := []int{-3, 0, 1, 2, 7, 20, 39, 64, 256, 300}[start%10]
		longest, gives := []int{2, 5, 12, 40}[start/10%4], []int{4, 6, 8}[start/40]
		a, p := both(n)
		for range 400 {
			one := turn(&d, a, p, longest, gives)
			agree(t, start, one)
			call, _, _ := strings.Cut(one.name, "(")
			words := strings.Fields(one.got)
			seen[call+" "+words[len(words)-1]]++
			for range 3 {
				agree(t, start, askBoth(a, p, d.base(p), d.near(longest)))
			}
		}
		wholly(t, start, a, p)
	}
	// The rows must come upon each answer often enough to tell something.
	for _, each := range []string{"Take OK", "Take ErrArg", "Take ErrFull", "Give true", "Give false", "Write OK", "Write ErrNone", "Write ErrBound"} {
		if seen[each] < 500 {
			t.Errorf("%s was answered %d times: %v", each, seen[each], seen)
		}
	}
}

// wholly asks for each word from each base.
func wholly(t *testing.T, row int, a *Area, p *plain) {
	t.Helper()
	for base := -1; base <= len(p.cells)+1; base++ {
		size := p.count(p.begins(base))
		for off := -1; off <= size; off++ {
			agree(t, row, askBoth(a, p, base, off))
		}
	}
}

// P15.1: behind three rooms of a word, in an area of four words: every row of five calls, and all that it tells behind each of them.
func TestShortRows(t *testing.T) {
	const calls = 7
	for row := range calls * calls * calls * calls * calls {
		a, p := both(4)
		for range 3 {
			agree(t, row, takeBoth(a, p, 1))
		}
		for left, n := row, 0; n < 5; left, n = left/calls, n+1 {
			if c := left % calls; c < 3 {
				agree(t, row, takeBoth(a, p, c+1))
			} else {
				agree(t, row, giveBoth(a, p, c-3))
			}
			// A word in each room, so that one taken there later would tell it.
			for base := range 4 {
				agree(t, row, askBoth(a, p, base, 0))
				agree(t, row, writeBoth(a, p, base, n%2, uint64(row+n+1)))
			}
		}
		wholly(t, row, a, p)
	}
}

// R5: the same rows are answered the same way again, whatever order a map is gone through in.
func TestAgain(t *testing.T) {
	play := func() string {
		d := dice(5)
		a, p := both(60)
		var s strings.Builder
		for range 300 {
			one := turn(&d, a, p, 8, 7)
			s.WriteString(one.name + one.got)
			s.WriteString(askBoth(a, p, d.base(p), d.near(8)).got)
		}
		return s.String()
	}
	first := play()
	for range 10 {
		if play() != first {
			t.Fatal("the same calls were answered otherwise")
		}
	}
}

// P15.1, T5: when all rooms are given back the area is as a new one, whatever the order.
func TestEmptyAgain(t *testing.T) {
	for start := range 40 {
		d := dice(start)
		a, p := both(api.Area)
		for range 300 {
			turn(&d, a, p, 8, 5)
		}
		for a.Used() > 0 {
			agree(t, start, giveBoth(a, p, d.base(p)))
		}
		for base := range api.Area {
			wantNone(t, a, base)
		}
		agree(t, start, takeBoth(a, p, api.Area))
		wholly(t, start, a, p)
	}
}
