package known

import (
	"fmt"
	"math"
	"slices"
	"strings"
	"testing"

	"concentric/api"
)

// use is one that was added and not dropped.
type use struct{ seg, uid, ring int }

// plain is a second reading of the chapter: it counts nothing, but keeps all uses as a list.
type plain struct{ uses []use }

// of are the uses that something holds of.
func (p *plain) of(is func(use) bool) []use {
	var l []use
	for _, u := range p.uses {
		if is(u) {
			l = append(l, u)
		}
	}
	return l
}

func (p *plain) bySeg(seg int) []use { return p.of(func(u use) bool { return u.seg == seg }) }

// free lists the numbers without a use, rising.
func (p *plain) free() []int {
	var l []int
	for seg := 1; seg < 64; seg++ {
		if p.bySeg(seg) == nil {
			l = append(l, seg)
		}
	}
	return l
}

func isRingPlain(ring int) bool { return slices.Contains([]int{0, 1, 2, 3, 4, 5, 6, 7}, ring) }

func (p *plain) add(uid, ring int) string {
	if uid <= 0 || !isRingPlain(ring) {
		return fmt.Sprint(0, false, int(api.ErrArg))
	}
	if had := p.of(func(u use) bool { return u.uid == uid }); had != nil {
		p.uses = append(p.uses, use{had[0].seg, uid, ring})
		return fmt.Sprint(had[0].seg, false, 0)
	}
	free := p.free()
	if free == nil {
		return fmt.Sprint(0, false, int(api.ErrFull))
	}
	p.uses = append(p.uses, use{free[0], uid, ring})
	return fmt.Sprint(free[0], true, 0)
}

func (p *plain) drop(seg, ring int) string {
	if !isRingPlain(ring) {
		return fmt.Sprint(false, int(api.ErrArg))
	}
	for i, u := range p.uses {
		if u.seg == seg && u.ring == ring {
			p.uses = slices.Delete(p.uses, i, i+1)
			return fmt.Sprint(p.bySeg(seg) == nil, 0)
		}
	}
	return fmt.Sprint(false, int(api.ErrNone))
}

func (p *plain) forget(seg int) string {
	had := p.bySeg(seg) != nil
	p.uses = slices.DeleteFunc(p.uses, func(u use) bool { return u.seg == seg })
	return fmt.Sprint(had)
}

// asked is what Number, UID, Count and All answer.
func (p *plain) asked(n, ring int) string {
	number, uid := 0, 0
	all := []int{}
	for _, u := range p.uses {
		if u.uid == n {
			number = u.seg
		}
		if u.seg == n {
			uid = u.uid
		}
		all = append(all, u.seg)
	}
	slices.Sort(all)
	count := len(p.of(func(u use) bool { return u.seg == n && u.ring == ring }))
	return fmt.Sprint(number, number != 0, uid, uid != 0, count, slices.Compact(all))
}

func asked(k *Known, n, ring int) string {
	number, is := k.Number(n)
	uid, there := k.UID(n)
	return fmt.Sprint(number, is, uid, there, k.Count(n, ring), k.All())
}

// dice is a row of numbers that hangs on its start alone.
type dice uint64

func (d *dice) roll(n int) int {
	*d = *d*6364136223846793005 + 1442695040888963407
	return int(uint64(*d)>>33) % n
}

// ring is one, or, now and then, none.
func (d *dice) ring() int {
	if d.roll(12) == 0 {
		return []int{-1, 8, math.MinInt, math.MaxInt}[d.roll(4)]
	}
	return d.roll(8)
}

// among is a number around the range, or, now and then, far from it.
func (d *dice) among(n int) int {
	if d.roll(20) == 0 {
		return []int{-1, 0, 64, 65, math.MinInt, math.MaxInt}[d.roll(6)]
	}
	return 1 + d.roll(n)
}

// busy is a number that has a use, where there is one, and a ring of it.
func (p *plain) busy(d *dice) (int, int) {
	if len(p.uses) == 0 {
		return d.among(api.MaxSeg), d.ring()
	}
	u := p.uses[d.roll(len(p.uses))]
	return u.seg, u.ring
}

// pair is what one call answers, and what the second reading does.
type pair struct{ name, got, want string }

func (x pair) told() string { return x.name + ": " + x.got }

func addBoth(k *Known, p *plain, uid, ring int) pair {
	seg, is, e := k.Add(uid, ring)
	return pair{fmt.Sprint("Add", []int{uid, ring}), fmt.Sprint(seg, is, int(e)), p.add(uid, ring)}
}

func dropBoth(k *Known, p *plain, seg, ring int) pair {
	is, e := k.Drop(seg, ring)
	return pair{fmt.Sprint("Drop", []int{seg, ring}), fmt.Sprint(is, int(e)), p.drop(seg, ring)}
}

func forgetBoth(k *Known, p *plain, seg int) pair {
	return pair{fmt.Sprint("Forget", []int{seg}), fmt.Sprint(k.Forget(seg)), p.forget(seg)}
}

func askBoth(k *Known, p *plain, n, ring int) pair {
	return pair{fmt.Sprint("ask", []int{n, ring}), asked(k, n, ring), p.asked(n, ring)}
}

// agree tells in which row of calls the two readings part.
func agree(t *testing.T, row int, x pair) {
	t.Helper()
	if x.got != x.want {
		t.Fatalf("row %d: %s = %s, want %s", row, x.name, x.got, x.want)
	}
}

// turn makes one call of both; uids are of so many, and drops tells how often a use that is there is dropped.
func turn(d *dice, k *Known, p *plain, uids, drops int) pair {
	switch n := d.roll(20); {
	case n < drops:
		seg, ring := p.busy(d)
		return dropBoth(k, p, seg, ring)
	case n < 9:
		return dropBoth(k, p, d.among(api.MaxSeg), d.ring())
	case n == 9 && d.roll(8) == 0:
		return forgetBoth(k, p, d.among(api.MaxSeg))
	}
	return addBoth(k, p, d.among(uids), d.ring())
}

// P12.1, R1 to R3, R5, R6: long rows of calls against the second reading, with few and with more segments than numbers.
func TestAgainstPlain(t *testing.T) {
	seen := map[string]int{}
	for start := range 60 {
		d, k, p := dice(start), New(), &plain{}
		uids, drops := []int{3, 20, 90, 400}[start%4], 1+start/4%8
		for range 400 {
			x := turn(&d, k, p, uids, drops)
			agree(t, start, x)
			name, _, _ := strings.Cut(x.name, "[")
			words := strings.Fields(x.got)
			seen[name+" "+words[len(words)-1]]++
			for range 3 {
				agree(t, start, askBoth(k, p, d.among(uids), d.ring()))
			}
		}
		lookAt(t, k)
	}
	// The rows must come upon each answer often enough to tell something.
	for _, each := range []string{"Add 0", "Add 1", "Add 7", "Drop 0", "Drop 1", "Drop 4", "Forget true", "Forget false"} {
		if seen[each] < 30 {
			t.Errorf("%s was answered %d times: %v", each, seen[each], seen)
		}
	}
}

// P12.1: every row of four calls on two segments in two rings, and what a table tells behind each call.
func TestShortRows(t *testing.T) {
	for row := range 10000 {
		k, p := New(), &plain{}
		for _, c := range []int{row / 1000, row / 100 % 10, row / 10 % 10, row % 10} {
			agree(t, row, oneOfTen(k, p, c))
			for n := range 4 {
				agree(t, row, askBoth(k, p, n, n%2))
				agree(t, row, askBoth(k, p, n, 1-n%2))
			}
		}
	}
}

// oneOfTen makes the call of that number: four are Add, four Drop, two Forget.
func oneOfTen(k *Known, p *plain, c int) pair {
	n, ring := 1+c%4/2, c%2
	switch {
	case c < 4:
		return addBoth(k, p, n, ring)
	case c < 8:
		return dropBoth(k, p, n, ring)
	}
	return forgetBoth(k, p, 1+ring)
}

// R5: the same rows are answered the same way a second time.
func TestAgain(t *testing.T) {
	play := func() string {
		d, k, p := dice(5), New(), &plain{}
		var s strings.Builder
		for range 300 {
			s.WriteString(turn(&d, k, p, 90, 3).told())
			s.WriteString(askBoth(k, p, d.among(90), d.ring()).told())
		}
		return s.String()
	}
	if play() != play() {
		t.Error("the same calls were answered otherwise")
	}
}

// P12.1, T5: when all uses are dropped the table is empty, whatever the order, and numbers are given from 1 on again.
func TestEmptyAgain(t *testing.T) {
	for start := range 20 {
		d, k, p := dice(start), New(), &plain{}
		for range 300 {
			turn(&d, k, p, 90, 1)
		}
		for len(p.uses) > 0 {
			seg, ring := p.busy(&d)
			agree(t, start, dropBoth(k, p, seg, ring))
		}
		wantAll(t, k)
		for n := 1; n <= api.MaxSeg; n++ {
			wantAdd(t, k, 5000+n, 0, n, true)
		}
	}
}
