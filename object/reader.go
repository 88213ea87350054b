package object

import (
	"concentric/api"
	"concentric/letters"
)

// reader takes what it is asked for off the beginning of the words that are left. Once something is not there it is short, and has nothing any more: so it is asked at the end alone.
type reader struct {
	left  []api.Word
	short bool
}

func (r *reader) fail() { r.left, r.short = nil, true }

// number takes none above MaxOff, which none in an object may be above: so a conversion cuts nothing.
func (r *reader) number() int {
	if len(r.left) == 0 || r.left[0]&api.Mask > api.MaxOff {
		r.fail()
		return 0
	}
	n := int(r.left[0] & api.Mask)
	r.left = r.left[1:]
	return n
}

func (r *reader) text() string {
	s, n, err := letters.Read(r.left)
	if err != api.OK {
		r.fail()
		return ""
	}
	r.left = r.left[n:]
	return s
}

func (r *reader) words(n int) []api.Word {
	if n > len(r.left) {
		r.fail()
		return nil
	}
	var l []api.Word
	for _, w := range r.left[:n] {
		l = append(l, w&api.Mask)
	}
	r.left = r.left[n:]
	return l
}

func (r *reader) defs(n int) []api.Def {
	var l []api.Def
	for len(l) < n && !r.short {
		l = append(l, api.Def{Name: r.text(), Off: r.number()})
	}
	return l
}

func (r *reader) links(n int) []api.Link {
	var l []api.Link
	for len(l) < n && !r.short {
		l = append(l, api.Link{Seg: r.text(), Entry: r.text(), Add: r.number()})
	}
	return l
}
