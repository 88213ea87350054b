// Package word: see DOC.md, chapter 1.
package word

import (
	"concentric/api"
)

const (
	width = 36         // bits of a word
	spare = 64 - width // bits of its container that do not count
)

// Of: see the chapter.
func Of(n int64) api.Word { return api.Word(n) & api.Mask }

// Sign: see the chapter.
func Sign(w api.Word) int64 {
	// Bit 0 goes to the container's sign first, so that the shift back spreads it.
	return int64(w<<spare) >> spare
}

// Get: see the chapter.
func Get(w api.Word, at, n int) (api.Word, api.Errno) {
	if !isField(at, n) {
		return 0, api.ErrArg
	}
	return w >> below(at, n) & ones(n), api.OK
}

// Put: see the chapter.
func Put(w api.Word, at, n int, v api.Word) (api.Word, api.Errno) {
	if !isField(at, n) {
		return 0, api.ErrArg
	}
	room := ones(n) << below(at, n)
	return w&api.Mask&^room | v<<below(at, n)&room, api.OK
}

// Add: see the chapter.
func Add(a, b api.Word) api.Word { return (a + b) & api.Mask }

// Sub: see the chapter.
func Sub(a, b api.Word) api.Word { return (a - b) & api.Mask }

// isField compares at with what n leaves, since the sum of both could wrap round.
func isField(at, n int) bool {
	return n >= 1 && n <= width && at >= 0 && at <= width-n
}

// below counts the bits to the right of a field: bits are numbered from the left.
func below(at, n int) uint { return uint(width - at - n) }

func ones(n int) api.Word { return 1<<uint(n) - 1 }
