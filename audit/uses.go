package audit

import (
	"cmp"
	"slices"

	"skein/api"
	"skein/store"
)

// node: a node that versions of a part have, from one number to another.
type node struct{ handle, part, from, to int }

// wait: a handle that waits, in a worker's list.
type wait struct{ handle, worker int }

// table: by the word of a slot and its generation what the slot is for.
type table map[int]api.Use

// fit lays down what fits a line of the table; what fits a line ahead, or came ahead in this one, stays that.
func fit[T any](t table, list []T, use func(x T) (int, api.Use)) {
	for _, x := range list {
		h, is := use(x)
		if _, fits := t[h]; !fits {
			t[h] = is
		}
	}
}

// uses tells what each slot is for.
func (x sight) uses() []api.Use {
	t := table{}
	fit(t, x.free(), useFree)
	for _, versions := range x.parts {
		fit(t, versions, useVersion)
	}
	for part := range x.parts {
		fit(t, x.nodes(part), useNode)
	}
	fit(t, waiting(x.store), useWaiting)
	list := make([]api.Use, len(x.slots))
	for i := range list {
		use, fits := t[x.wordOf(i+1)]
		if !fits {
			use = api.Use{Kind: api.UseOther}
		}
		list[i] = use
	}
	return list
}

func useFree(w int) (int, api.Use) { return w, api.Use{Kind: api.UseFree} }

func useVersion(v version) (int, api.Use) {
	return v.handle, api.Use{Kind: api.UseVersion, Part: v.part, From: v.number, To: v.number}
}

func useNode(n node) (int, api.Use) {
	return n.handle, api.Use{Kind: api.UseNode, Part: n.part, From: n.from, To: n.to}
}

func useWaiting(x wait) (int, api.Use) {
	return x.handle, api.Use{Kind: api.UseWaiting, Worker: x.worker}
}

// free tells the words of the slots that are free. (Where a slot was laid into the pile twice by hand, it may be there, and in use.)
func (x sight) free() []int {
	var list []int
	for _, i := range x.store.Pool().Free() {
		if x.slots[i-1].Gen%2 == 0 {
			list = append(list, x.wordOf(i))
		}
	}
	return list
}

// nodes tells the nodes that a part's versions have.
func (x sight) nodes(part int) []node {
	// They stand by their numbers already, if nobody laid others by hand.
	versions := slices.Clone(x.parts[part])
	slices.SortFunc(versions, func(a, b version) int { return cmp.Compare(a.number, b.number) })
	from := x.firstOf(versions)
	slices.Reverse(versions)
	to := x.firstOf(versions)
	var list []node
	for h := range from {
		list = append(list, node{handle: h, part: part, from: from[h], to: to[h]})
	}
	return list
}

// waiting tells what waits, worker by worker.
func waiting(s *store.Store) []wait {
	var list []wait
	for k := range s.Epoch().At() {
		for _, h := range s.Epoch().Waiting(k) {
			list = append(list, wait{handle: h, worker: k})
		}
	}
	return list
}
