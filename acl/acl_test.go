package acl

import (
	"fmt"
	"maps"
	"slices"
	"strings"
	"testing"

	"concentric/api"
)

var (
	none = api.Flags{}
	r    = api.Flags{R: true}
	w    = api.Flags{W: true}
	x    = api.Flags{E: true}
	rwe  = api.Flags{R: true, W: true, E: true}
)

func term(user string, f api.Flags) api.Term { return api.Term{User: user, F: f} }

// flags is one of all eight sets of flags.
func flags(n int) api.Flags { return api.Flags{R: n&1 != 0, W: n&2 != 0, E: n&4 != 0} }

// listOf gives neighbours different flags, so that a term that is moved or mixed with another is seen.
func listOf(users ...string) []api.Term {
	var l []api.Term
	for i, user := range users {
		l = append(l, term(user, flags(i+1)))
	}
	return l
}

// letters is n users that rise, with a gap ahead of each, between all and behind the last.
func letters(n int) []api.Term {
	var users []string
	for i := range n {
		users = append(users, fmt.Sprintf("m%03d5", i))
	}
	return listOf(users...)
}

func signs(n int) string { return strings.Repeat("u", n) }

// isName reads chapter 3's promise of a user sign by sign; `*` is one of these signs.
func isName(s string) bool {
	for i := range len(s) {
		if c := s[i]; c <= 32 || c >= 127 || c == '>' {
			return false
		}
	}
	return len(s) >= 1 && len(s) <= 16
}

// plain is a second reading of a list that may be: Users and their Flags, without an order.
type plain map[string]api.Flags

// read tells if l may be by holding all pairs against each other, not neighbours alone.
func read(l []api.Term) (plain, bool) {
	p := plain{}
	for i, t := range l {
		for _, later := range l[i+1:] {
			if strings.Compare(t.User, later.User) != -1 {
				return nil, false
			}
		}
		if !isName(t.User) || len(l) > 16 {
			return nil, false
		}
		p[t.User] = t.F
	}
	return p, true
}

func (p plain) list() []api.Term {
	var l []api.Term
	for _, user := range slices.Sorted(maps.Keys(p)) {
		l = append(l, term(user, p[user]))
	}
	return l
}

func (p plain) set(t api.Term) ([]api.Term, api.Errno) {
	q := maps.Clone(p)
	q[t.User] = t.F
	if !isName(t.User) {
		return nil, api.ErrName
	}
	if len(q) > 16 {
		return nil, api.ErrFull
	}
	return q.list(), api.OK
}

func (p plain) drop(user string) ([]api.Term, api.Errno) {
	q := maps.Clone(p)
	delete(q, user)
	if len(q) == len(p) {
		return nil, api.ErrNone
	}
	return q.list(), api.OK
}

func (p plain) find(user string) api.Flags {
	if f, ok := p[user]; ok {
		return f
	}
	return p["*"]
}

// wantList holds an answer of Set or Drop against what it should be; beside an error there is no list.
func wantList(t *testing.T, what string, l []api.Term, e api.Errno, want []api.Term, f api.Errno) {
	t.Helper()
	if !slices.Equal(l, want) || e != f {
		t.Errorf("%s = %v, %d, want %v, %d", what, l, e, want, f)
	}
	if e != api.OK && len(l) != 0 {
		t.Errorf("%s: %v beside error %d", what, l, e)
	}
	if e == api.OK && !May(l) {
		t.Errorf("%s = %v, that may not be", what, l)
	}
}

// held holds all that the package tells of a list and a user against the second reading.
func held(t *testing.T, l []api.Term, user string) {
	t.Helper()
	p, good := read(l)
	if May(l) != good {
		t.Errorf("May(%v) = %v, want %v", l, May(l), good)
	}
	var set, dropped []api.Term
	e, f, found := api.ErrArg, api.ErrArg, none
	if good {
		set, e = p.set(term(user, rwe))
		dropped, f = p.drop(user)
		found = p.find(user)
	}
	got, g := Set(l, term(user, rwe))
	wantList(t, fmt.Sprintf("Set(%v, %q)", l, user), got, g, set, e)
	got, g = Drop(l, user)
	wantList(t, fmt.Sprintf("Drop(%v, %q)", l, user), got, g, dropped, f)
	if got := Find(l, user); got != found {
		t.Errorf("Find(%v, %q) = %v, want %v", l, user, got, found)
	}
}

// P6.1: the chapter's example.
func TestExample(t *testing.T) {
	if got := Find([]api.Term{term("*", r)}, "a"); got != r {
		t.Errorf("Find = %v", got)
	}
}

// P6.1: lists that may be and lists that may not.
func TestMay(t *testing.T) {
	for _, c := range []struct {
		users []string
		want  bool
	}{
		{nil, true},
		{[]string{"a"}, true},
		{[]string{"*"}, true},
		{[]string{"**"}, true},
		{[]string{"a", "b", "c"}, true},
		{[]string{"*", "a", "b"}, true},
		{[]string{"!", "*", "a"}, true},
		{[]string{"!", ")", "*"}, true},
		{[]string{"*", "**", "+"}, true},
		{[]string{"a", "a"}, false},
		{[]string{"*", "*"}, false},
		{[]string{"a", "b", "b"}, false},
		{[]string{"a", "a", "b"}, false},
		{[]string{"a", "b", "a"}, false},
		{[]string{"*", "a", "*"}, false},
		{[]string{"b", "a"}, false},
		{[]string{"a", "*"}, false},
		{[]string{"*", "!"}, false},
		{[]string{"a", "c", "b"}, false},
		{[]string{"b", "c", "a"}, false},
		{[]string{"b", "a", "c"}, false},
		{[]string{""}, false},
		{[]string{"", "a"}, false},
		{[]string{"a", ""}, false},
		{[]string{"a b"}, false},
		{[]string{"a", "a>b"}, false},
		{[]string{"a", "b\n", "c"}, false},
		{[]string{"a", "b", "c\xff"}, false},
		{[]string{signs(16)}, true},
		{[]string{signs(17)}, false},
		{[]string{"a", signs(16), "z"}, true},
		{[]string{"a", signs(17), "z"}, false},
	} {
		if got := May(listOf(c.users...)); got != c.want {
			t.Errorf("May(%q) = %v", c.users, got)
		}
	}
	if !May(nil) || !May([]api.Term{}) || !May(make([]api.Term, 0, 40)) {
		t.Error("an empty list may be")
	}
}

// P6.1: Flags are not asked: any of them may be, those of neighbours may be alike.
func TestAnyFlags(t *testing.T) {
	for n := range 8 {
		for m := range 8 {
			l := []api.Term{term("a", flags(n)), term("b", flags(m))}
			if !May(l) || Find(l, "a") != flags(n) || Find(l, "b") != flags(m) {
				t.Errorf("%v: May %v, found %v and %v", l, May(l), Find(l, "a"), Find(l, "b"))
			}
			if twice := []api.Term{term("a", flags(n)), term("a", flags(m))}; May(twice) {
				t.Errorf("May(%v)", twice)
			}
		}
	}
}

// P6.1: users rise sign by sign, as their numbers do: not by length, by value or without regard to case.
func TestOrder(t *testing.T) {
	rising := []string{"!", ")", "*", "**", "*a", "+", "10", "9", "A", "B", "Z", "Zz", "_", "a", "aB", "aa", "aaa", "ab", "b", "z", "~"}
	for i, a := range rising {
		for j, b := range rising {
			if got := May(listOf(a, b)); got != (i < j) {
				t.Errorf("May(%q, %q) = %v", a, b, got)
			}
			if i == j {
				continue
			}
			want := []api.Term{term(a, r), term(b, x)}
			if i > j {
				want = []api.Term{term(b, x), term(a, r)}
			}
			got, e := Set([]api.Term{term(a, r)}, term(b, x))
			wantList(t, fmt.Sprintf("Set(%q, %q)", a, b), got, e, want, api.OK)
		}
	}
}

// P6.1: each sign there is, alone and at each place of a user, in a list, to set, to drop and to find.
func TestSigns(t *testing.T) {
	for c := range 256 {
		one := string([]byte{byte(c)})
		for _, user := range []string{one, one + "ab", "a" + one + "b", "ab" + one, signs(15) + one, one + signs(15)} {
			if May(listOf(user)) != isName(user) {
				t.Errorf("May(%q) = %v", user, !isName(user))
			}
			held(t, nil, user)
			held(t, listOf("*"), user)
			held(t, listOf("N"), user)
			held(t, listOf(user), "N")
			held(t, listOf(user), user)
		}
	}
}

// P6.1: a user has 1 to 16 signs; bytes are counted.
func TestUserLengths(t *testing.T) {
	if api.MaxUsers != 16 {
		t.Fatal("limits")
	}
	for n := range 40 {
		user, want := signs(n), api.OK
		if n < 1 || n > 16 {
			want = api.ErrName
		}
		if May(listOf(user)) != (want == api.OK) {
			t.Errorf("%d signs: May %v", n, want != api.OK)
		}
		_, e := Set(listOf("*"), term(user, r))
		if e != want {
			t.Errorf("%d signs: Set %d, want %d", n, e, want)
		}
		held(t, listOf("*", "v"), user)
	}
	for _, user := range []string{signs(256), signs(257), signs(272), signs(1 << 16), "\u00e9", "\u012a", "\U0001f600"} {
		held(t, listOf("*", "v"), user)
		held(t, listOf(user), "v")
	}
}

// every is all rows of at most n of these users.
func every(users []string, n int) [][]string {
	rows := [][]string{nil}
	for from := 0; n > 0; n-- {
		to := len(rows)
		for _, row := range rows[from:to] {
			for _, user := range users {
				rows = append(rows, append(slices.Clone(row), user))
			}
		}
		from = to
	}
	return rows
}

// P6.1, R2, R6: every list of at most four out of these users, those that may not be too, with each of them to set, drop and find.
func TestEveryShortList(t *testing.T) {
	users := []string{"", "!", "*", "a", "a b", "aa", "b"}
	for _, row := range every(users, 4) {
		l := listOf(row...)
		for _, user := range users {
			held(t, l, user)
		}
	}
}

// P6.1: a list has at most MaxTerms terms, and what may not be is not looked into.
func TestLengths(t *testing.T) {
	if api.MaxTerms != 16 {
		t.Fatal("limits")
	}
	for _, n := range []int{0, 1, 2, 14, 15, 16, 17, 18, 32, 256, 272, 999} {
		l := letters(n)
		if got := May(l); got != (n <= 16) {
			t.Errorf("May of %d terms = %v", n, got)
		}
		for _, user := range []string{"*", "m0005", "m0075", "m0070", "z", "", "a b"} {
			held(t, l, user)
		}
	}
	if May(make([]api.Term, 1<<20)) || !May(letters(17)[1:]) {
		t.Error("a long list")
	}
}

// P6.1: a new User at the head, between two, at the end, and `*`; one that is there keeps its place.
func TestSet(t *testing.T) {
	l := []api.Term{term("*", r), term("bob", w), term("jim", x)}
	for _, c := range []struct {
		user string
		want []api.Term
	}{
		{"!", []api.Term{term("!", rwe), l[0], l[1], l[2]}},
		{"ann", []api.Term{l[0], term("ann", rwe), l[1], l[2]}},
		{"cat", []api.Term{l[0], l[1], term("cat", rwe), l[2]}},
		{"zoe", []api.Term{l[0], l[1], l[2], term("zoe", rwe)}},
		{"*", []api.Term{term("*", rwe), l[1], l[2]}},
		{"bob", []api.Term{l[0], term("bob", rwe), l[2]}},
		{"jim", []api.Term{l[0], l[1], term("jim", rwe)}},
	} {
		got, e := Set(l, term(c.user, rwe))
		wantList(t, "Set of "+c.user, got, e, c.want, api.OK)
	}
	got, e := Set(l[1:], term("*", x))
	wantList(t, "Set of * at the head", got, e, []api.Term{term("*", x), l[1], l[2]}, api.OK)
	got, e = Set(listOf("!", "a"), term("*", x))
	wantList(t, "Set of * between", got, e, []api.Term{term("!", flags(1)), term("*", x), term("a", flags(2))}, api.OK)
	got, e = Set(listOf("!", ")"), term("*", x))
	wantList(t, "Set of * at the end", got, e, []api.Term{term("!", flags(1)), term(")", flags(2)), term("*", x)}, api.OK)
	for _, empty := range [][]api.Term{nil, {}} {
		for _, user := range []string{"*", "a"} {
			got, e = Set(empty, term(user, w))
			wantList(t, "Set into none of "+user, got, e, []api.Term{term(user, w)}, api.OK)
		}
	}
}

// P6.1: a term without flags is a term: it takes the place of one with flags, and hides `*`.
func TestSetNoFlags(t *testing.T) {
	l := []api.Term{term("*", rwe), term("a", rwe)}
	got, e := Set(l, term("a", none))
	wantList(t, "Set", got, e, []api.Term{term("*", rwe), term("a", none)}, api.OK)
	if f := Find(got, "a"); f != none {
		t.Errorf("Find = %v", f)
	}
	if f := Find(got, "b"); f != rwe {
		t.Errorf("Find of another = %v", f)
	}
	got, e = Drop(got, "a")
	wantList(t, "Drop", got, e, []api.Term{term("*", rwe)}, api.OK)
	if f := Find(got, "a"); f != rwe {
		t.Errorf("Find behind Drop = %v", f)
	}
}

// P6.1: in a list of MaxTerms terms each of them may still be set, and no other; with one less, any.
func TestSetFull(t *testing.T) {
	full := letters(16)
	for i, old := range full {
		want := slices.Clone(full)
		want[i].F = none
		got, e := Set(full, term(old.User, none))
		wantList(t, "Set of one that is there", got, e, want, api.OK)
	}
	for _, user := range []string{"!", "*", "a", "m0000", "m0070", "m0156", "z"} {
		got, e := Set(full, term(user, r))
		wantList(t, "Set of one more, "+user, got, e, nil, api.ErrFull)
		got, e = Set(full[:15], term(user, r))
		if len(got) != 16 || e != api.OK || Find(got, user) != r {
			t.Errorf("Set of a sixteenth, %s = %v, %d", user, got, e)
		}
	}
	got, e := Drop(full, "m0075")
	if len(got) != 15 || e != api.OK {
		t.Fatalf("Drop = %v, %d", got, e)
	}
	got, e = Set(got, term("z", r))
	if len(got) != 16 || e != api.OK {
		t.Errorf("Set behind Drop = %v, %d", got, e)
	}
}

// P6.1: the first, one between, the last, the only one, `*`; what is not there; an empty list.
func TestDrop(t *testing.T) {
	l := []api.Term{term("*", r), term("bob", w), term("jim", x)}
	for _, c := range []struct {
		l    []api.Term
		user string
		want []api.Term
		e    api.Errno
	}{
		{l, "*", l[1:], api.OK},
		{l, "bob", []api.Term{l[0], l[2]}, api.OK},
		{l, "jim", l[:2], api.OK},
		{l[1:], "bob", l[2:], api.OK},
		{l[:1], "*", nil, api.OK},
		{l[2:], "jim", nil, api.OK},
		{listOf("!", "*", "a"), "*", []api.Term{term("!", flags(1)), term("a", flags(3))}, api.OK},
		{l, "!", nil, api.ErrNone},
		{l, "ann", nil, api.ErrNone},
		{l, "bo", nil, api.ErrNone},
		{l, "bobb", nil, api.ErrNone},
		{l, "Bob", nil, api.ErrNone},
		{l, "zoe", nil, api.ErrNone},
		{l[1:], "*", nil, api.ErrNone},
		{nil, "a", nil, api.ErrNone},
		{nil, "*", nil, api.ErrNone},
		{[]api.Term{}, "a", nil, api.ErrNone},
	} {
		got, e := Drop(c.l, c.user)
		wantList(t, fmt.Sprintf("Drop(%v, %q)", c.l, c.user), got, e, c.want, c.e)
	}
	full := letters(16)
	for i, old := range full {
		got, e := Drop(full, old.User)
		wantList(t, "Drop of a full list", got, e, slices.Delete(slices.Clone(full), i, i+1), api.OK)
	}
}

// P6.1, R6: a text that is no User is dropped as one that is not there: Drop names no other error.
func TestDropNoUser(t *testing.T) {
	for _, user := range []string{"", " ", ">", "a>b", "a b", signs(17), "\xff"} {
		got, e := Drop(listOf("*", "a"), user)
		wantList(t, fmt.Sprintf("Drop of %q", user), got, e, nil, api.ErrNone)
	}
}

// P6.1: a User that is named, one that is not with and without `*`, `*` itself, a text that is no User.
func TestFind(t *testing.T) {
	with := []api.Term{term("*", r), term("bob", w), term("jim", x)}
	without := with[1:]
	for _, c := range []struct {
		l    []api.Term
		user string
		want api.Flags
	}{
		{with, "bob", w}, {with, "jim", x}, {with, "cat", r}, {with, "*", r}, {with, "**", r}, {with, "bo", r}, {with, "bobb", r}, {with, "BOB", r},
		{with, "", r}, {with, "a b", r}, {with, "a>b", r}, {with, signs(17), r}, {with, "\xff", r},
		{without, "bob", w}, {without, "jim", x}, {without, "cat", none}, {without, "*", none}, {without, "", none}, {without, "a b", none},
		{listOf("!", "*", "a"), "!", flags(1)}, {listOf("!", "*", "a"), "b", flags(2)}, {listOf("!", "*", "a"), "a", flags(3)},
		{listOf("!", "*"), "zoe", flags(2)}, {listOf("**", "a"), "b", none}, {listOf("**", "a"), "*", none},
		{nil, "a", none}, {nil, "*", none}, {nil, "", none}, {[]api.Term{}, "a", none},
	} {
		if got := Find(c.l, c.user); got != c.want {
			t.Errorf("Find(%v, %q) = %v, want %v", c.l, c.user, got, c.want)
		}
	}
	full := letters(16)
	for _, term := range full {
		if got := Find(full, term.User); got != term.F {
			t.Errorf("Find(%q) of a full list = %v, want %v", term.User, got, term.F)
		}
	}
}

// wrong is lists that may not be, all of which name a and * with all flags.
func wrong() [][]api.Term {
	all := func(users ...string) []api.Term {
		var l []api.Term
		for _, user := range users {
			l = append(l, term(user, rwe))
		}
		return l
	}
	return [][]api.Term{
		all("a", "*"),
		all("*", "a", "a"),
		all("*", "*", "a"),
		all("*", "a", "b", "a"),
		all("*", "b", "a"),
		all("", "*", "a"),
		all("*", "a", "a b"),
		all("*", "a", "b>c"),
		all("*", "a", signs(17)),
		all("*", "a", "b", "c", "d", "e", "f", "g", "h", "i", "j", "k", "l", "m", "n", "o", "p"),
	}
}

// P6.1, R2, R6: of a list that may not be nothing is found, and ErrArg comes ahead of all else.
func TestWrongLists(t *testing.T) {
	for _, l := range wrong() {
		if May(l) {
			t.Errorf("May(%v)", l)
		}
		for _, user := range []string{"a", "*", "b", "z", "", "a b", signs(17)} {
			got, e := Set(l, term(user, r))
			wantList(t, fmt.Sprintf("Set(%v, %q)", l, user), got, e, nil, api.ErrArg)
			got, e = Drop(l, user)
			wantList(t, fmt.Sprintf("Drop(%v, %q)", l, user), got, e, nil, api.ErrArg)
			if got := Find(l, user); got != none {
				t.Errorf("Find(%v, %q) = %v", l, user, got)
			}
		}
	}
}

// P6.1, R6: ErrName of a User that may not be, ahead of ErrFull.
func TestSetNoUser(t *testing.T) {
	for _, l := range [][]api.Term{nil, {}, listOf("*"), listOf("*", "a"), letters(15), letters(16)} {
		for _, user := range []string{"", " ", ">", "a>b", "a b", "\x00", "\x7f", "*\n", signs(17), "\u00e9"} {
			for _, f := range []api.Flags{none, rwe} {
				got, e := Set(l, term(user, f))
				wantList(t, fmt.Sprintf("Set(%v, %q)", l, user), got, e, nil, api.ErrName)
			}
		}
	}
}

// calls makes one call of each function with each of some users.
func calls(l []api.Term) {
	May(l)
	for _, user := range []string{"*", "a", "b", "m0005", "m0035", "m0070", "z", "", "a b"} {
		Set(l, term(user, rwe))
		Drop(l, user)
		Find(l, user)
	}
}

// R3, R4: a list that is handed in stays as it is, its spare room and what lies ahead of it too, whatever the answer.
func TestListsUnchanged(t *testing.T) {
	rooms := append(wrong(), letters(20), listOf("!", "*", "a", "b", "c", "d"))
	for _, room := range rooms {
		before := slices.Clone(room)
		for from := range room {
			for to := from; to <= len(room); to++ {
				calls(room[from:to])
				if !slices.Equal(room, before) {
					t.Fatalf("calls with %d to %d of %v changed it to %v", from, to, before, room)
				}
			}
		}
	}
}

// scribble writes over all of a list, spare room too.
func scribble(l []api.Term) {
	l = l[:cap(l)]
	for i := range l {
		l[i] = term("scribble", rwe)
	}
}

// R4: an answer shares no memory with what was handed in, nor with another answer, spare room too.
func TestAnswersAnew(t *testing.T) {
	answers := func(l []api.Term) [][]api.Term {
		var all [][]api.Term
		for _, user := range []string{"!", "*", "a", "b", "c", "z"} {
			set, _ := Set(l, term(user, x))
			dropped, _ := Drop(l, user)
			all = append(all, set, dropped)
		}
		return all
	}
	room := listOf("*", "a", "b", "c", "d", "e", "f")
	for n := range len(room) + 1 {
		want := answers(slices.Clone(room[:n]))
		for i := range want {
			l := slices.Clone(room)
			got := answers(l[:n])
			scribble(got[i])
			if !slices.Equal(l, room) {
				t.Fatalf("answer %d of %d terms shares memory with the list", i, n)
			}
			for j := range got {
				if j != i && !slices.Equal(got[j], want[j]) {
					t.Fatalf("answers %d and %d of %d terms share memory", i, j, n)
				}
			}
			if again := answers(l[:n]); !slices.EqualFunc(again, want, slices.Equal) {
				t.Fatalf("answers of %d terms are others behind a change of answer %d", n, i)
			}
		}
	}
}

// R4: nothing that was handed in is kept: what is done to it later changes no answer that was given.
func TestListsNotKept(t *testing.T) {
	l := listOf("*", "a", "b")
	set, _ := Set(l, term("c", x))
	dropped, _ := Drop(l, "a")
	scribble(l)
	wantList(t, "Set", set, api.OK, []api.Term{term("*", flags(1)), term("a", flags(2)), term("b", flags(3)), term("c", x)}, api.OK)
	wantList(t, "Drop", dropped, api.OK, []api.Term{term("*", flags(1)), term("b", flags(3))}, api.OK)
}

// R5: answers hang on the arguments alone, not on spare room nor on what was asked before.
func TestSameAgain(t *testing.T) {
	for _, l := range append(wrong(), nil, listOf("*", "a", "b"), letters(15), letters(16)) {
		roomy := append(make([]api.Term, 0, 64), l...)
		for _, user := range []string{"*", "a", "m0075", "z", ""} {
			held(t, l, user)
			held(t, roomy, user)
			calls(letters(16))
			held(t, l, user)
		}
	}
}

// dice is a row of numbers that hangs on its start alone.
type dice uint64

func (d *dice) roll(n int) int {
	*d = *d*6364136223846793005 + 1442695040888963407
	return int(uint64(*d)>>33) % n
}

// P6.1: long rows of Set and Drop, against the second reading: what is set is found, what is dropped is not found any more, the others are as they were.
func TestAgainstPlain(t *testing.T) {
	users := []string{"", "a b", "*"}
	for i := range 20 {
		users = append(users, string(rune('!'+4*i)))
	}
	for start := range 40 {
		d := dice(start)
		var l []api.Term
		p := plain{}
		for range 200 {
			user, f := users[d.roll(len(users))], flags(d.roll(8))
			var got, want []api.Term
			e, g := api.OK, api.OK
			if d.roll(5) < 1+2*(start%2) {
				got, e = Drop(l, user)
				want, g = p.drop(user)
			} else {
				got, e = Set(l, term(user, f))
				want, g = p.set(term(user, f))
			}
			wantList(t, fmt.Sprintf("start %d: %q of %v", start, user, l), got, e, want, g)
			if e == api.OK {
				l = got
				p, _ = read(want)
			}
			for _, user := range users {
				if got := Find(l, user); got != p.find(user) {
					t.Fatalf("start %d: Find(%v, %q) = %v", start, l, user, got)
				}
			}
		}
	}
}
