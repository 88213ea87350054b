package refer

import (
	"fmt"
	"math"
	"slices"
	"strings"
	"testing"

	"concentric/api"
)

// bound is one name of a segment in a ring.
type bound struct {
	ring int
	name string
	seg  int
}

// plain is a second reading of the chapter: a list of what is bound, gone through at each call.
type plain struct{ all []bound }

// with are those of which something holds.
func (p *plain) with(is func(bound) bool) []bound {
	var l []bound
	for _, b := range p.all {
		if is(b) {
			l = append(l, b)
		}
	}
	return l
}

func (p *plain) has(ring int, name string) []bound {
	return p.with(func(b bound) bool { return b.ring == ring && b.name == name })
}

// cut takes out those of which something holds, and tells how many.
func (p *plain) cut(is func(bound) bool) int {
	n := len(p.with(is))
	p.all = p.with(func(b bound) bool { return !is(b) })
	return n
}

// isName asks sign by sign for those that a name has.
func isName(name string) bool {
	var signs strings.Builder
	for sign := '!'; sign <= '~'; sign++ {
		if sign != '>' {
			signs.WriteRune(sign)
		}
	}
	return name != "" && len(name) < 33 && strings.Trim(name, signs.String()) == ""
}

func (p *plain) bind(ring int, name string, seg int) string {
	switch had := p.has(ring, name); {
	case ring < 0, ring > 7, seg < 1, seg > 63:
		return "ErrArg"
	case !isName(name):
		return "ErrName"
	case had == nil:
		p.all = append(p.all, bound{ring, name, seg})
	case had[0].seg != seg:
		return "ErrThere"
	}
	return "OK"
}

func (p *plain) drop(ring int, name string) string {
	had := p.has(ring, name)
	if had == nil {
		return "0 ErrNone"
	}
	p.cut(func(b bound) bool { return b.ring == ring && b.name == name })
	return fmt.Sprint(had[0].seg, " OK")
}

func (p *plain) forget(seg int) string {
	return fmt.Sprint(p.cut(func(b bound) bool { return b.seg == seg }))
}

// asked is what Find, Of and Len answer.
func (p *plain) asked(ring int, name string, seg int) string {
	found := 0
	for _, b := range p.has(ring, name) {
		found = b.seg
	}
	l := []string{}
	for _, b := range p.with(func(b bound) bool { return b.ring == ring && b.seg == seg }) {
		l = append(l, b.name)
	}
	slices.Sort(l)
	return fmt.Sprintf("%d %v %q %d", found, found > 0, l, len(p.all))
}

func asked(x *Refer, ring int, name string, seg int) string {
	found, is := x.Find(ring, name)
	return fmt.Sprintf("%d %v %q %d", found, is, x.Of(ring, seg), x.Len())
}

func told(e api.Errno) string {
	switch e {
	case api.OK:
		return "OK"
	case api.ErrArg:
		return "ErrArg"
	case api.ErrName:
		return "ErrName"
	case api.ErrNone:
		return "ErrNone"
	case api.ErrThere:
		return "ErrThere"
	}
	return "another error"
}

// pair is what one call answers, and what the second reading does.
type pair struct{ name, got, want string }

func bindBoth(x *Refer, p *plain, ring int, name string, seg int) pair {
	return pair{fmt.Sprintf("Bind(%d, %q, %d)", ring, name, seg), told(x.Bind(ring, name, seg)), p.bind(ring, name, seg)}
}

func dropBoth(x *Refer, p *plain, ring int, name string) pair {
	seg, e := x.Drop(ring, name)
	return pair{fmt.Sprintf("Drop(%d, %q)", ring, name), fmt.Sprint(seg, " "+told(e)), p.drop(ring, name)}
}

func forgetBoth(x *Refer, p *plain, seg int) pair {
	return pair{fmt.Sprintf("Forget(%d)", seg), fmt.Sprint(x.Forget(seg)), p.forget(seg)}
}

func askBoth(x *Refer, p *plain, ring int, name string, seg int) pair {
	return pair{fmt.Sprintf("ask(%d, %q, %d)", ring, name, seg), asked(x, ring, name, seg), p.asked(ring, name, seg)}
}

// agree tells in which row of calls the two readings part.
func agree(t *testing.T, row int, x pair) {
	t.Helper()
	if x.got != x.want {
		t.Fatalf("row %d: %s = %s, want %s", row, x.name, x.got, x.want)
	}
}

// dice is a row of numbers that hangs on its start alone.
type dice uint64

func (d *dice) roll(n int) int {
	*d = *d*6364136223846793005 + 1442695040888963407
	return int(uint64(*d)>>33) % n
}

// ring is one, or, now and then, none.
func (d *dice) ring() int {
	if d.roll(15) == 0 {
		return []int{-1, 8, math.MinInt, math.MaxInt}[d.roll(4)]
	}
	return d.roll(8)
}

// seg is one of the first so many, or, now and then, at the end of numbers or past it.
func (d *dice) seg(segs int) int {
	if d.roll(15) == 0 {
		return []int{-1, 0, 63, 64, math.MinInt, math.MaxInt}[d.roll(6)]
	}
	return 1 + d.roll(segs)
}

// name is short, so that it comes again, or, now and then, none.
func (d *dice) name() string {
	if d.roll(15) == 0 {
		return noNames[d.roll(len(noNames))]
	}
	name := ""
	for range 1 + d.roll(2) {
		name += string(rune('a' + d.roll(3)))
	}
	return name
}

// turn makes one call of both: names that are bound are dropped as often as drops says.
func turn(d *dice, x *Refer, p *plain, segs, drops int) pair {
	switch n := d.roll(20); {
	case n < drops && len(p.all) > 0:
		b := p.all[d.roll(len(p.all))]
		return dropBoth(x, p, b.ring, b.name)
	case n < 8:
		return dropBoth(x, p, d.ring(), d.name())
	case n == 8:
		return forgetBoth(x, p, d.seg(segs))
	}
	return bindBoth(x, p, d.ring(), d.name(), d.seg(segs))
}

// P13.1, R1 to R3, R5, R6: long rows of calls against the second reading, with few segments and with many.
func TestAgainstPlain(t *testing.T) {
	seen := map[string]int{}
	for start := range 60 {
		d, x, p := dice(start), New(), &plain{}
		segs, drops := []int{1, 2, 8, 63}[start%4], start/4%8
		for range 400 {
			one := turn(&d, x, p, segs, drops)
			agree(t, start, one)
			call, _, _ := strings.Cut(one.name, "(")
			words := strings.Fields(one.got)
			seen[call+" "+words[len(words)-1]]++
			for range 3 {
				agree(t, start, askBoth(x, p, d.ring(), d.name(), d.seg(segs)))
			}
		}
		lookAt(t, x)
	}
	// The rows must come upon each answer often enough to tell something.
	for _, each := range []string{"Bind OK", "Bind ErrArg", "Bind ErrName", "Bind ErrThere", "Drop OK", "Drop ErrNone", "Forget 0", "Forget 1", "Forget 2", "Forget 5"} {
		if seen[each] < 30 {
			t.Errorf("%s was answered %d times: %v", each, seen[each], seen)
		}
	}
}

// P13.1: every row of four calls on two names of two segments in two rings, and what a table tells behind each call.
func TestShortRows(t *testing.T) {
	const calls = 14
	for row := range calls * calls * calls * calls {
		x, p := New(), &plain{}
		for left, n := row, 0; n < 4; left, n = left/calls, n+1 {
			agree(t, row, oneOfMany(x, p, left%calls))
			for n := range 4 {
				agree(t, row, askBoth(x, p, 3+n%2, []string{"a", "b"}[n/2], 1+(n+n/2)%2))
			}
		}
	}
}

// oneOfMany makes the call of that number: eight are Bind, four Drop, two Forget.
func oneOfMany(x *Refer, p *plain, c int) pair {
	ring, name, seg := 3+c%2, []string{"a", "b"}[c/2%2], 1+c/4%2
	switch {
	case c < 8:
		return bindBoth(x, p, ring, name, seg)
	case c < 12:
		return dropBoth(x, p, ring, name)
	}
	return forgetBoth(x, p, 1+c%2)
}

// R5: the same rows are answered the same way again, whatever order a map is gone through in.
func TestAgain(t *testing.T) {
	play := func() string {
		d, x, p := dice(5), New(), &plain{}
		var s strings.Builder
		for range 300 {
			one := turn(&d, x, p, 2, 1)
			s.WriteString(one.name + one.got)
			s.WriteString(askBoth(x, p, d.ring(), d.name(), d.seg(2)).got)
		}
		return s.String()
	}
	first := play()
	for range 10 {
		if play() != first {
			t.Fatal("the same calls were answered otherwise")
		}
	}
}

// P13.1, T5: when all names are dropped the table is empty, whatever the order, and all can be bound to others.
func TestEmptyAgain(t *testing.T) {
	for start := range 20 {
		d, x, p := dice(start), New(), &plain{}
		for range 300 {
			turn(&d, x, p, 63, 0)
		}
		was := slices.Clone(p.all)
		for len(p.all) > 0 {
			b := p.all[d.roll(len(p.all))]
			agree(t, start, dropBoth(x, p, b.ring, b.name))
		}
		wantLen(t, x, 0)
		if lookAt(t, x) != (look{}) {
			t.Error("names are left")
		}
		for _, b := range was {
			wantBind(t, x, b.ring, b.name, 1+b.seg%63)
		}
		wantLen(t, x, len(was))
	}
}
