package lazy

import (
	"skein/api"
	"skein/crew"
)

// Table: Onces by number.
type Table struct{ onces []*Once }

// NewTable makes one.
func NewTable(n int, f func(i int) (int, bool)) (*Table, api.Errno) {
	if n < 1 || n > api.MaxCells {
		return nil, api.ErrLazyMaker
	}
	t := &Table{onces: make([]*Once, n)}
	for i := range t.onces {
		t.onces[i] = NewOnce(func() (int, bool) { return f(i) })
	}
	return t, api.OK
}

// Get tells a value.
func (t *Table) Get(w *crew.Worker, i int) (int, api.Errno) {
	if i < 0 || i >= len(t.onces) {
		// A call that is refused has a line as well.
		w.Step()
		return 0, api.ErrLazyMaker
	}
	return t.onces[i].Get(w)
}

// All tells all values.
func (t *Table) All(w *crew.Worker) ([]int, api.Errno) {
	values := make([]int, len(t.onces))
	for i, o := range t.onces {
		v, err := o.Get(w)
		if err != api.OK {
			return nil, err
		}
		values[i] = v
	}
	return values, api.OK
}

// Made tells of which there is a value.
func (t *Table) Made(w *crew.Worker) []int {
	w.Step()
	// Others may make values while the table is gone through. None ever goes: so if one more look finds as many, they were there at one moment, between the two.
	made := t.look()
	for {
		again := t.look()
		if len(again) == len(made) {
			return made
		}
		made = again
	}
}

// look goes through the table once.
func (t *Table) look() []int {
	var made []int
	for i, o := range t.onces {
		if o.made.Load() {
			made = append(made, i)
		}
	}
	return made
}
