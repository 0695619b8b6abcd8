// Package word: numbers packed into one word; bits of keys: see doc/01-word.md.
package word

import "skein/api"

// How many bits a tag has, which lies below the index in a word, and a key.
const (
	tagBits = 40
	keyBits = 32
)

// Masks of 20, 40 and 60 bits: an index, a tag, and a word, which is both.
const (
	indexMask = 1<<(20*(iota+1)) - 1
	tagMask
	wordMask
)

// bitAt: by place the number that has that bit alone; made once, at the start, and only read from then on.
var bitAt = makeBits()

func makeBits() [keyBits]int {
	var table [keyBits]int
	bit := 1
	for place := range table {
		table[place] = bit
		bit += bit
	}
	return table
}

// Pack tells the word of an index and a tag.
func Pack(index, tag int) (int, api.Errno) {
	if !upTo(index, api.MaxIndex) {
		return 0, api.ErrWordIndex
	}
	if !upTo(tag, api.MaxTag) {
		return 0, api.ErrWordTag
	}
	return join(index, tag), api.OK
}

// Index tells a word's index; 0 of what is no word.
func Index(w int) int {
	if !upTo(w, wordMask) {
		return 0
	}
	return w >> tagBits & indexMask
}

// Tag tells a word's tag; 0 of what is no word.
func Tag(w int) int {
	if !upTo(w, wordMask) {
		return 0
	}
	return w & tagMask
}

// Next tells the word of an index and the next tag; behind the last tag comes 0.
func Next(w, index int) (int, api.Errno) {
	if !upTo(index, api.MaxIndex) {
		return 0, api.ErrWordIndex
	}
	if !upTo(w, wordMask) {
		return 0, api.ErrWordTag
	}
	return join(index, (Tag(w)+1)&tagMask), api.OK
}

// Bit tells a key's bit at a place, 0 being the lowest.
func Bit(key, place int) (int, api.Errno) {
	if !upTo(key, api.MaxKey) || !upTo(place, keyBits-1) {
		return 0, api.ErrWordKey
	}
	if key&bitAt[place] == 0 {
		return 0, api.OK
	}
	return 1, api.OK
}

// Place tells the highest place at which two keys differ; -1: none.
func Place(a, b int) (int, api.Errno) {
	if !upTo(a, api.MaxKey) || !upTo(b, api.MaxKey) {
		return 0, api.ErrWordKey
	}
	if a == b {
		return -1, api.OK
	}
	return highest(a ^ b), api.OK
}

// Part tells in which part a key is.
func Part(key, parts int) (int, api.Errno) {
	if !upTo(key, api.MaxKey) {
		return 0, api.ErrWordKey
	}
	if !isParts(parts) {
		return 0, api.ErrWordParts
	}
	return key * parts >> keyBits, api.OK
}

// Range tells a part's least key and its greatest one.
func Range(part, parts int) (int, int, api.Errno) {
	if !isParts(parts) || !upTo(part, parts-1) {
		return 0, 0, api.ErrWordParts
	}
	return least(part, parts), least(part+1, parts) - 1, api.OK
}

func upTo(n, most int) bool { return 0 <= n && n <= most }

func isParts(parts int) bool { return 1 <= parts && parts <= api.MaxParts }

func join(index, tag int) int { return index<<tagBits | tag }

// highest halves the places that are left: x, which is above 0, never falls below the bit at the place found so far.
func highest(x int) int {
	place := 0
	for half := keyBits / 2; half > 0; half /= 2 {
		if x >= bitAt[place+half] {
			place += half
		}
	}
	return place
}

// least rounds up: a part begins at the first key whose product reaches it. Of the number of parts it is one past the last key.
func least(part, parts int) int {
	return (part<<keyBits + parts - 1) / parts
}
