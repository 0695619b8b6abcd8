package word_test

import (
	"math"
	"math/big"
	"strconv"
	"strings"
	"testing"

	"skein/api"
	"skein/word"
)

// outside: numbers that are neither an index nor a tag nor a key nor a word nor a number of parts.
var outside = []int{math.MinInt, math.MinInt + 1, -1 << 60, -1 << 40, -1 << 32, -1 << 20, -2, -1, 1 << 60, 1<<60 + 1, 1 << 62, math.MaxInt - 1, math.MaxInt}

// spread tells numbers from 0 to most: both ends, each power of two with its neighbours, and some in between.
func spread(most int) []int {
	seen := map[int]bool{}
	var out []int
	add := func(n int) {
		if 0 <= n && n <= most && !seen[n] {
			seen[n] = true
			out = append(out, n)
		}
	}
	for p := 1; p > 0 && p <= most; p *= 2 {
		add(p - 1)
		add(p)
		add(p + 1)
	}
	for i := range 32 {
		add(int(uint64(i+1) * 0x9E3779B97F4A7C15 >> 4 % uint64(most)))
	}
	add(most - 1)
	add(most)
	return out
}

// beyond tells what isn't from 0 to most: one below, one past, and what is far away.
func beyond(most int) []int {
	out := []int{-1, most + 1, most + 2}
	for _, n := range outside {
		if n < 0 || n > most {
			out = append(out, n)
		}
	}
	return out
}

func mustPack(t *testing.T, index, tag int) int {
	t.Helper()
	w, e := word.Pack(index, tag)
	if e != api.OK {
		t.Fatalf("Pack(%d, %d): %v", index, tag, e)
	}
	return w
}

func mustPlace(t *testing.T, a, b int) int {
	t.Helper()
	p, e := word.Place(a, b)
	if e != api.OK {
		t.Fatalf("Place(%d, %d): %v", a, b, e)
	}
	return p
}

func mustPart(t *testing.T, key, parts int) int {
	t.Helper()
	p, e := word.Part(key, parts)
	if e != api.OK {
		t.Fatalf("Part(%d, %d): %v", key, parts, e)
	}
	return p
}

func mustRange(t *testing.T, part, parts int) (int, int) {
	t.Helper()
	lo, hi, e := word.Range(part, parts)
	if e != api.OK {
		t.Fatalf("Range(%d, %d): %v", part, parts, e)
	}
	return lo, hi
}

func wantOne(t *testing.T, what string, n int, e api.Errno, wantN int, wantE api.Errno) {
	t.Helper()
	if n != wantN || e != wantE {
		t.Errorf("%s: %d, %v, want %d, %v", what, n, e, wantN, wantE)
	}
}

// binary tells a key's 32 bits as text, the highest first.
func binary(key int) string {
	s := strconv.FormatInt(int64(key), 2)
	return strings.Repeat("0", 32-len(s)) + s
}

// scaled tells key times parts divided by 2^32, by numbers that have no width.
func scaled(key, parts int) int {
	n := new(big.Int).Mul(big.NewInt(int64(key)), big.NewInt(int64(parts)))
	return int(n.Rsh(n, 32).Int64())
}

func TestExamples(t *testing.T) {
	w := mustPack(t, 3, 5)
	if w != 3298534883333 || word.Index(w) != 3 || word.Tag(w) != 5 {
		t.Errorf("P1.1: Pack(3, 5): %d, %d, %d", w, word.Index(w), word.Tag(w))
	}
	n, e := word.Next(w, 4)
	wantOne(t, "P1.2: Next(Pack(3, 5), 4)", n, e, 4398046511110, api.OK)
	n, e = word.Next(mustPack(t, 1, api.MaxTag), 1)
	wantOne(t, "P1.2: Next(Pack(1, MaxTag), 1)", n, e, mustPack(t, 1, 0), api.OK)
	for _, c := range [][3]int{{4, 6, 1}, {0, 4294967295, 31}, {7, 7, -1}} {
		n, e = word.Place(c[0], c[1])
		wantOne(t, "P1.3: Place", n, e, c[2], api.OK)
	}
	n, e = word.Part(4294967295, 3)
	wantOne(t, "P1.4: Part(4294967295, 3)", n, e, 2, api.OK)
	if lo, hi := mustRange(t, 1, 3); lo != 1431655766 || hi != 2863311530 {
		t.Errorf("P1.4: Range(1, 3): %d to %d", lo, hi)
	}
	n, e = word.Pack(1048576, -1)
	wantOne(t, "P1.1: Pack(1048576, -1)", n, e, 0, api.ErrWordIndex)
}

// P1.1: the word is index times 2^40 and tag.
func TestPackIsIndexTimesAndTag(t *testing.T) {
	for _, index := range spread(api.MaxIndex) {
		for _, tag := range spread(api.MaxTag) {
			n, e := word.Pack(index, tag)
			wantOne(t, "P1.1: Pack", n, e, index*1099511627776+tag, api.OK)
		}
	}
}

// P1.1: what Pack refuses, the index's error ahead of the tag's.
func TestPackRefuses(t *testing.T) {
	for _, index := range beyond(api.MaxIndex) {
		for _, tag := range append(beyond(api.MaxTag), 0, 7, api.MaxTag) {
			n, e := word.Pack(index, tag)
			wantOne(t, "P1.1: Pack of no index", n, e, 0, api.ErrWordIndex)
		}
	}
	for _, tag := range beyond(api.MaxTag) {
		for _, index := range []int{0, 1, 9, api.MaxIndex} {
			n, e := word.Pack(index, tag)
			wantOne(t, "P1.1: Pack of no tag", n, e, 0, api.ErrWordTag)
		}
	}
}

// P1.1: Index and Tag of what is no word are 0; of the greatest word they are the greatest ones.
func TestNoWordHasZeros(t *testing.T) {
	for _, w := range beyond(1<<60 - 1) {
		if word.Index(w) != 0 || word.Tag(w) != 0 {
			t.Errorf("P1.1: %d: index %d, tag %d", w, word.Index(w), word.Tag(w))
		}
	}
	if w := 1<<60 - 1; word.Index(w) != api.MaxIndex || word.Tag(w) != api.MaxTag {
		t.Errorf("P1.1: %d: index %d, tag %d", w, word.Index(w), word.Tag(w))
	}
}

// P1.2: Next has the index that is asked for, and the tag behind the word's.
func TestNextHasNextTag(t *testing.T) {
	for _, from := range []int{0, 1, 3, api.MaxIndex} {
		for _, tag := range spread(api.MaxTag) {
			w := mustPack(t, from, tag)
			for _, index := range []int{0, 1, 2, 1 << 19, api.MaxIndex} {
				want := index*1099511627776 + tag + 1
				if tag == api.MaxTag {
					want = index * 1099511627776
				}
				n, e := word.Next(w, index)
				wantOne(t, "P1.2: Next", n, e, want, api.OK)
			}
		}
	}
}

// P1.2: what Next refuses, the index's error ahead of the word's.
func TestNextRefuses(t *testing.T) {
	for _, index := range beyond(api.MaxIndex) {
		for _, w := range append(beyond(1<<60-1), 0, 5, 1<<60-1) {
			n, e := word.Next(w, index)
			wantOne(t, "P1.2: Next of no index", n, e, 0, api.ErrWordIndex)
		}
	}
	for _, w := range beyond(1<<60 - 1) {
		for _, index := range []int{0, 1, api.MaxIndex} {
			n, e := word.Next(w, index)
			wantOne(t, "P1.2: Next of no word", n, e, 0, api.ErrWordTag)
		}
	}
}

// P1.3: a key's bits are those of its text in base 2.
func TestBitIsTheKeys(t *testing.T) {
	for _, key := range spread(api.MaxKey) {
		text := binary(key)
		for place := range 32 {
			n, e := word.Bit(key, place)
			wantOne(t, "P1.3: Bit", n, e, int(text[31-place]-'0'), api.OK)
		}
	}
}

// P1.3: no key, no place.
func TestBitRefuses(t *testing.T) {
	for _, key := range beyond(api.MaxKey) {
		for _, place := range []int{math.MinInt, -1, 0, 31, 32, math.MaxInt} {
			n, e := word.Bit(key, place)
			wantOne(t, "P1.3: Bit of no key", n, e, 0, api.ErrWordKey)
		}
	}
	for _, place := range beyond(31) {
		for _, key := range []int{0, 1, api.MaxKey} {
			n, e := word.Bit(key, place)
			wantOne(t, "P1.3: Bit at no place", n, e, 0, api.ErrWordKey)
		}
	}
}

// P1.3: the highest place at which two keys' texts in base 2 are unlike.
func TestPlaceIsTheHighest(t *testing.T) {
	for _, a := range spread(api.MaxKey) {
		for _, b := range spread(api.MaxKey) {
			want := 31
			for x, y := binary(a), binary(b); want >= 0 && x[31-want] == y[31-want]; {
				want--
			}
			n, e := word.Place(a, b)
			wantOne(t, "P1.3: Place", n, e, want, api.OK)
		}
	}
}

// P1.3: no key, on either side; two that are one number, and no key, have no place either.
func TestPlaceRefuses(t *testing.T) {
	for _, bad := range beyond(api.MaxKey) {
		for _, other := range []int{0, 1, api.MaxKey, bad} {
			n, e := word.Place(bad, other)
			wantOne(t, "P1.3: Place of no key", n, e, 0, api.ErrWordKey)
			n, e = word.Place(other, bad)
			wantOne(t, "P1.3: Place with no key", n, e, 0, api.ErrWordKey)
		}
	}
}

// P1.4: key times parts, divided by 2^32, rounded down.
func TestPartIsScaled(t *testing.T) {
	for parts := 1; parts <= api.MaxParts; parts++ {
		for _, key := range spread(api.MaxKey) {
			n, e := word.Part(key, parts)
			wantOne(t, "P1.4: Part", n, e, scaled(key, parts), api.OK)
		}
	}
}

// P1.4: what Part refuses, the key's error ahead of the parts'.
func TestPartRefuses(t *testing.T) {
	bad := append(beyond(api.MaxParts), 0)
	for _, key := range beyond(api.MaxKey) {
		for _, parts := range append(bad, 1, api.MaxParts) {
			n, e := word.Part(key, parts)
			wantOne(t, "P1.4: Part of no key", n, e, 0, api.ErrWordKey)
		}
	}
	for _, parts := range bad {
		for _, key := range []int{0, 1, api.MaxKey} {
			n, e := word.Part(key, parts)
			wantOne(t, "P1.4: Part among no parts", n, e, 0, api.ErrWordParts)
		}
	}
}

// P1.4: Range tells the least key and the greatest one of a part: they are in it, and their neighbours aren't.
func TestRangeEnds(t *testing.T) {
	for parts := 1; parts <= api.MaxParts; parts++ {
		for part := range parts {
			lo, hi := mustRange(t, part, parts)
			if lo > hi || scaled(lo, parts) != part || scaled(hi, parts) != part {
				t.Errorf("P1.4: Range(%d, %d): %d to %d", part, parts, lo, hi)
			}
			if lo > 0 && scaled(lo-1, parts) == part || hi < api.MaxKey && scaled(hi+1, parts) == part {
				t.Errorf("P1.4: Range(%d, %d): %d to %d is not all", part, parts, lo, hi)
			}
		}
	}
}

// P1.4: no number of parts, no part.
func TestRangeRefuses(t *testing.T) {
	check := func(part, parts int) {
		if lo, hi, e := word.Range(part, parts); lo != 0 || hi != 0 || e != api.ErrWordParts {
			t.Errorf("P1.4: Range(%d, %d): %d, %d, %v", part, parts, lo, hi, e)
		}
	}
	for _, parts := range append(beyond(api.MaxParts), 0) {
		for _, part := range []int{math.MinInt, -1, 0, 1, parts, math.MaxInt} {
			check(part, parts)
		}
	}
	for parts := 1; parts <= api.MaxParts; parts++ {
		for _, part := range beyond(parts - 1) {
			check(part, parts)
		}
	}
}

// P1.5: packing and taking apart undo each other.
func TestPackAndApart(t *testing.T) {
	for _, index := range spread(api.MaxIndex) {
		for _, tag := range spread(api.MaxTag) {
			if w := mustPack(t, index, tag); word.Index(w) != index || word.Tag(w) != tag {
				t.Errorf("P1.5: Pack(%d, %d): index %d, tag %d", index, tag, word.Index(w), word.Tag(w))
			}
		}
	}
	for _, w := range spread(1<<60 - 1) {
		if got := mustPack(t, word.Index(w), word.Tag(w)); got != w {
			t.Errorf("P1.5: %d packed again: %d", w, got)
		}
	}
}

// P1.5: words with greater indices are greater, whatever their tags.
func TestGreaterIndexGreaterWord(t *testing.T) {
	for _, index := range spread(api.MaxIndex - 1) {
		if mustPack(t, index, api.MaxTag) >= mustPack(t, index+1, 0) {
			t.Errorf("P1.5: the words of %d and %d", index, index+1)
		}
	}
}

// P1.5: Next goes round all tags: it adds 1 below MaxTag, and comes to the first one behind it.
func TestNextGoesRound(t *testing.T) {
	for _, tag := range spread(api.MaxTag) {
		w, e := word.Next(mustPack(t, 5, tag), 5)
		if e != api.OK || word.Index(w) != 5 || word.Tag(w) == tag || word.Tag(w) != (tag+1)%1099511627776 {
			t.Errorf("P1.5: Next of the tag %d: index %d, tag %d, %v", tag, word.Index(w), word.Tag(w), e)
		}
	}
	w := mustPack(t, 2, api.MaxTag-99)
	for range 200 {
		n, e := word.Next(w, 2)
		if e != api.OK || n == w {
			t.Fatalf("P1.5: Next(%d, 2): %d, %v", w, n, e)
		}
		w = n
	}
	if w != mustPack(t, 2, 100) {
		t.Errorf("P1.5: 200 behind MaxTag - 99: %d", word.Tag(w))
	}
}

// P1.6: at the place the lesser key has 0, the greater one 1; above it they are the same.
func TestPlaceParts(t *testing.T) {
	for _, a := range spread(api.MaxKey) {
		for _, b := range spread(api.MaxKey) {
			if a >= b {
				continue
			}
			p := mustPlace(t, a, b)
			x, e1 := word.Bit(a, p)
			y, e2 := word.Bit(b, p)
			if e1 != api.OK || e2 != api.OK || x != 0 || y != 1 || a>>(p+1) != b>>(p+1) {
				t.Errorf("P1.6: Place(%d, %d): %d, bits %d and %d", a, b, p, x, y)
			}
			if q := mustPlace(t, b, a); q != p {
				t.Errorf("P1.6: Place(%d, %d): %d, the other way %d", a, b, p, q)
			}
		}
	}
}

// P1.6: of the three places of three keys the two greatest are one.
func TestPlacesOfThree(t *testing.T) {
	keys := spread(api.MaxKey)
	for i, a := range keys {
		for j, b := range keys[:i+1] {
			ab := mustPlace(t, a, b)
			for _, c := range keys[:j+1] {
				bc, ac := mustPlace(t, b, c), mustPlace(t, a, c)
				if ab > max(bc, ac) || bc > max(ab, ac) || ac > max(ab, bc) || ab != bc && bc != ac && ab != ac {
					t.Fatalf("P1.6: %d, %d, %d: places %d, %d, %d", a, b, c, ab, bc, ac)
				}
			}
		}
	}
}

// P1.7: the ranges follow each other from 0 to MaxKey without a gap.
func TestRangesFollow(t *testing.T) {
	for parts := 1; parts <= api.MaxParts; parts++ {
		next := 0
		for part := range parts {
			lo, hi := mustRange(t, part, parts)
			if lo != next || hi < lo {
				t.Errorf("P1.7: Range(%d, %d): %d to %d, behind %d", part, parts, lo, hi, next-1)
			}
			next = hi + 1
		}
		if next != api.MaxKey+1 {
			t.Errorf("P1.7: %d parts end at %d", parts, next-1)
		}
	}
}

// P1.7: a key is within the range of just the part that Part tells; parts rise with keys.
func TestKeyInJustItsPart(t *testing.T) {
	for parts := 1; parts <= api.MaxParts; parts++ {
		keys := spread(api.MaxKey)
		for part := range parts {
			lo, hi := mustRange(t, part, parts)
			keys = append(keys, lo, hi, lo+(hi-lo)/2)
		}
		for _, key := range keys {
			in := mustPart(t, key, parts)
			if key < api.MaxKey && mustPart(t, key+1, parts) < in {
				t.Errorf("P1.7: among %d parts the part of %d is below that of %d", parts, key+1, key)
			}
			for part := range parts {
				lo, hi := mustRange(t, part, parts)
				if (lo <= key && key <= hi) != (part == in) {
					t.Errorf("P1.7: %d of %d parts is %d to %d; the key %d is in %d", part, parts, lo, hi, key, in)
				}
			}
		}
	}
}
