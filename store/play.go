package store

import (
	"skein/api"
	"skein/crew"
)

// Play runs a case over a new map.
func Play(s api.Setup, c api.Case) (api.Run, [][]int, api.Errno) {
	m, err := New(s)
	if err != api.OK {
		return api.Run{}, nil, err
	}
	d := NewCalls(m)
	run, err := crew.Run(c, d)
	if err != api.OK {
		return api.Run{}, nil, err
	}
	return run, d.Rows(), api.OK
}

// Rows tells what is there.
func (c *Calls) Rows() [][]int {
	s := c.store
	list := [][]int{
		{s.layers.Epoch.Now(), len(s.layers.Pool.Free()), s.Faults()},
		s.Leases(),
		s.rowOfNames(),
	}
	for i, state := range s.States() {
		list = append(list, append([]int{state}, s.newest(i)...))
	}
	return list
}

// rowOfNames: of each name it and its stamp.
func (s *Store) rowOfNames() []int {
	var row []int
	for _, x := range s.Names(nil) {
		row = append(row, x.Key, x.Value)
	}
	return row
}

// newest tells of a part's newest version its number, its stamp, and what it holds; nothing, if there is none. What that version has was never retired: no error is met, unless somebody spoilt the pool by hand.
func (s *Store) newest(part int) []int {
	versions := s.chains[part].Versions()
	if len(versions) == 0 {
		return nil
	}
	version, _ := s.Read(nil, versions[0])
	stamp, _ := s.Mark(nil, versions[0])
	row := []int{version.B, stamp}
	for x, err := range s.Walk(nil, version.A, 0, api.MaxKey) {
		if err != api.OK {
			break
		}
		row = append(row, x.Key, x.Value)
	}
	return row
}
