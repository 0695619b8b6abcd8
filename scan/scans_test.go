package scan_test

import (
	"skein/api"
)

// Scans, and what a trie does for them, line by line, as the chapters say them.

// over: a walk ends, by an error or by 0.
type over struct{ err api.Errno }

// must goes on, or panics with over: a walk is short so.
func must(n seen, err api.Errno) seen {
	if err != 0 {
		panic(over{err})
	}
	return n
}

// upToOver does f, up to what it ends by: an error, or 0.
func upToOver(f func()) (err api.Errno) {
	defer func() {
		if r := recover(); r != nil {
			o, ok := r.(over)
			if !ok {
				panic(r)
			}
			err = o.err
		}
	}()
	f()
	return 0
}

func (d doing) lower(n seen) (seen, api.Errno) { return d.read(n.x.B, n.first, n.middle()-1) }
func (d doing) upper(n seen) (seen, api.Errno) { return d.read(n.x.C, n.middle(), n.last) }

func (d doing) walk(n seen, lo, hi int, give func(key, value int)) {
	if n.isLeaf() {
		if lo <= n.x.B && n.x.B <= hi {
			give(n.x.B, n.x.C)
		}
		return
	}
	if lo <= hi && lo < n.middle() && hi >= n.first {
		d.walk(must(d.lower(n)), lo, hi, give)
	}
	if lo <= hi && lo <= n.last && hi >= n.middle() {
		d.walk(must(d.upper(n)), lo, hi, give)
	}
}

// place: a node of one of a Diff's roots: by its handle and within which keys, and once it was read by itself.
type place struct {
	h, lo, hi int
	n         *seen
}

func (d doing) readOnce(p place) place {
	if p.n == nil {
		n := must(d.read(p.h, p.lo, p.hi))
		p.n = &n
	}
	return p
}

func (p place) halves() (place, place) {
	n := *p.n
	return place{h: n.x.B, lo: n.first, hi: n.middle() - 1}, place{h: n.x.C, lo: n.middle(), hi: n.last}
}

// gives: what a Diff gives: of a key, whether it is in a and its value there, the same in b.
type gives func(key, had, old, has, now int)

func (d doing) wentFrom(p place, give gives) {
	d.walk(*d.readOnce(p).n, 0, mostKey, func(key, value int) { give(key, 1, value, 0, 0) })
}

func (d doing) cameTo(p place, give gives) {
	d.walk(*d.readOnce(p).n, 0, mostKey, func(key, value int) { give(key, 0, 0, 1, value) })
}

func (d doing) diff(a, b place, give gives) {
	switch {
	case a.h == b.h:
		return
	case a.h == 0:
		d.cameTo(b, give)
		return
	case b.h == 0:
		d.wentFrom(a, give)
		return
	}
	a = d.readOnce(a)
	b = d.readOnce(b)
	x, y := *a.n, *b.n
	switch {
	case x.isLeaf() && y.isLeaf() && x.x.B == y.x.B:
		if x.x.C != y.x.C {
			give(x.x.B, 1, x.x.C, 1, y.x.C)
		}
	case x.last < y.first:
		d.wentFrom(a, give)
		d.cameTo(b, give)
	case y.last < x.first:
		d.cameTo(b, give)
		d.wentFrom(a, give)
	case x.first == y.first && x.last == y.last:
		al, au := a.halves()
		bl, bu := b.halves()
		d.diff(al, bl, give)
		d.diff(au, bu, give)
	case x.last-x.first > y.last-y.first && y.last < x.middle():
		l, u := a.halves()
		d.diff(l, b, give)
		d.wentFrom(u, give)
	case x.last-x.first > y.last-y.first:
		l, u := a.halves()
		d.wentFrom(l, give)
		d.diff(u, b, give)
	case x.last < y.middle():
		l, u := b.halves()
		d.diff(a, l, give)
		d.cameTo(u, give)
	default:
		l, u := b.halves()
		d.cameTo(l, give)
		d.diff(a, u, give)
	}
}

func (d doing) rank(root, key int) (int, api.Errno) {
	if root == 0 {
		d.step()
		return 0, 0
	}
	way, n, err := d.down(root, key)
	if err != 0 {
		return 0, err
	}
	sum := 0
	for i, x := range way {
		below := n
		if i+1 < len(way) {
			below = way[i+1]
		}
		if key >= x.middle() {
			sum += x.x.D - below.x.D
		}
	}
	if n.last < key {
		sum += n.x.D
	}
	return sum, 0
}

func (d doing) keys(root int) (int, api.Errno) {
	if root == 0 {
		d.step()
		return 0, 0
	}
	n, err := d.read(root, 0, mostKey)
	return n.x.D, err
}

// parts: the number of parts.
func (d doing) parts() int { return len(d.states) }

// mustView: View, or over.
func (d doing) mustView(x api.Snap, part int) api.Node {
	v, err := d.view(x, part)
	if err != 0 {
		panic(over{err})
	}
	return v
}

// ranges: P19.1.
func (d doing) ranges(x api.Snap, lo, hi int, give func(key, value int)) api.Errno {
	if !isKey(lo) || !isKey(hi) {
		d.step()
		return 191
	}
	if lo > hi {
		d.step()
		return 0
	}
	return upToOver(func() {
		for part := partOf(lo, d.parts()); part <= partOf(hi, d.parts()); part++ {
			v := d.mustView(x, part)
			if v.A != 0 {
				d.walk(must(d.read(v.A, 0, mostKey)), max(lo, least(part, d.parts())), min(hi, least(part+1, d.parts())-1), give)
			}
		}
	})
}

// counts: P19.2.
func (d doing) counts(x api.Snap, lo, hi int) (int, api.Errno) {
	if !isKey(lo) || !isKey(hi) {
		d.step()
		return 0, 191
	}
	if lo > hi {
		d.step()
		return 0, 0
	}
	sum := 0
	for part := partOf(lo, d.parts()); part <= partOf(hi, d.parts()); part++ {
		v, err := d.view(x, part)
		if err != 0 {
			return 0, err
		}
		if lo > least(part, d.parts()) {
			n, err := d.rank(v.A, lo)
			if err != 0 {
				return 0, err
			}
			sum -= n
		}
		var n int
		if hi < least(part+1, d.parts())-1 {
			n, err = d.rank(v.A, hi+1)
		} else {
			n, err = d.keys(v.A)
		}
		if err != 0 {
			return 0, err
		}
		sum += n
	}
	return sum, 0
}

// pages: P19.3.
func (d doing) pages(x api.Snap, after, n int) ([]api.Pair, bool, api.Errno) {
	if after < -1 || after > mostKey || n < 1 || n > 1000 {
		d.step()
		return nil, false, 191
	}
	if after == mostKey {
		d.step()
		return nil, false, 0
	}
	var list []api.Pair
	err := d.ranges(x, after+1, mostKey, func(key, value int) {
		list = append(list, api.Pair{Key: key, Value: value})
		if len(list) == n+1 {
			panic(over{})
		}
	})
	if err != 0 {
		return nil, false, err
	}
	return list[:min(n, len(list))], len(list) > n, 0
}

// diffs: P19.4.
func (d doing) diffs(x, y api.Snap, give gives) api.Errno {
	return upToOver(func() {
		for part := range d.parts() {
			v := d.mustView(x, part)
			u := d.mustView(y, part)
			if v.B != u.B {
				d.diff(place{h: v.A, hi: mostKey}, place{h: u.A, hi: mostKey}, give)
			}
		}
	})
}

// rangeTold: an answer of a Range that is left behind so many; 0: it isn't.
func (d doing) rangeTold(x api.Snap, lo, hi, behind int) api.Answer {
	var a api.Answer
	a.Err = d.ranges(x, lo, hi, func(key, value int) {
		a.Pairs = append(a.Pairs, api.Pair{Key: key, Value: value})
		if len(a.Pairs) == behind {
			panic(over{})
		}
	})
	a.Ok = a.Err == 0
	return a
}

func (d doing) diffTold(x, y api.Snap, behind int) api.Answer {
	var a api.Answer
	a.Err = d.diffs(x, y, func(key, had, old, has, now int) {
		a.Ints = append(a.Ints, key, had, old, has, now)
		if len(a.Ints) == 5*behind {
			panic(over{})
		}
	})
	a.Ok = a.Err == 0
	return a
}

func pageTold(list []api.Pair, more bool, err api.Errno) api.Answer {
	return api.Answer{Ok: more, N: len(list), Pairs: list, Err: err}
}

// full: what a register of the worker holds.
func (d doing) full(register int) (api.Snap, api.Errno) {
	if register < 0 || register > 3 {
		return api.Snap{}, 180
	}
	x := d.registers[d.k][register]
	if x.Stamp == 0 {
		return api.Snap{}, 182
	}
	return x, 0
}

// scanned does a scan of Play's: P19.6.
func (d doing) scanned(c api.Call) api.Answer {
	x, err := d.full(c.A)
	y := api.Snap{}
	if err == 0 && c.Kind == 19 {
		y, err = d.full(c.B)
	}
	if err != 0 {
		d.step()
		return api.Answer{Err: err}
	}
	switch c.Kind {
	case 16:
		return d.rangeTold(x, c.B, c.C, 0)
	case 17:
		return went(d.counts(x, c.B, c.C))
	case 18:
		return pageTold(d.pages(x, c.B, c.C))
	}
	return d.diffTold(x, y, 0)
}

// scannedBy does a scan by a snapshot that is handed in.
func (d doing) scannedBy(x api.Snap, c api.Call) api.Answer {
	a, b := c.Pairs[0].Key, c.Pairs[0].Value
	switch c.Kind {
	case kindRangeBy:
		return d.rangeTold(x, a, b, c.C)
	case kindCountBy:
		return went(d.counts(x, a, b))
	case kindPageBy:
		return pageTold(d.pages(x, a, b))
	}
	return d.diffTold(x, api.Snap{Lease: a, Stamp: b}, c.C)
}
