package joint

import "skein/api"

// Words tells what stands in the cells' words: calls tell values alone.
func (x *Cells) Words() []int {
	var list []int
	for c := range x.cells {
		list = append(list, int(x.cells[c].word.Load()))
	}
	return list
}

// Lay lets a word stand in a cell: tags that no test could come to.
func (x *Cells) Lay(c, w int) { x.cells[c].word.Store(int64(w)) }

// Statuses tells those of the descriptors that a worker made.
func (x *Cells) Statuses(k int) []int {
	var list []int
	for i := range x.owns[k].made {
		list = append(list, int(x.descriptor(k+api.MaxWorkers*i).status.Load()))
	}
	return list
}
