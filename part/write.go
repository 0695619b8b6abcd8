package part

import (
	"skein/api"
	"skein/crew"
)

// write: a Put, a Drop, a Swap or a Many, told apart by what they make of a root.
type write struct {
	*Part
	w     *crew.Worker
	makes func(root int) (change, api.Errno)
}

// write publishes a change of the newest version as the next one.
func (a *Part) write(w *crew.Worker, makes func(root int) (change, api.Errno)) (api.Told, api.Errno) {
	if err := a.load.Wait(w, a.number); err != api.OK {
		return api.Told{}, err
	}
	return a.within(w, write{Part: a, w: w, makes: makes}.untilDone)
}

// untilDone goes round as long as others publish in between: the change is made anew of what they published.
func (x write) untilDone() (api.Told, api.Errno) {
	for {
		told, done, err := x.once()
		if done || err != api.OK {
			return told, err
		}
	}
}

// once makes the change of the newest version, and publishes it; false: another one was published meanwhile.
func (x write) once() (api.Told, bool, api.Errno) {
	v, err := x.newest(x.w)
	if err != api.OK {
		return api.Told{}, false, err
	}
	c, err := x.makes(v.root)
	if err != api.OK {
		return api.Told{}, false, err
	}
	told := api.Told{Value: c.Old, Had: c.Had, Number: v.number, Many: c.many}
	if !c.changes {
		return told, true, api.OK
	}
	told.Number++
	told.New = true
	_, done, err := x.Push(x.w, v.handle, api.Node{A: c.Root, B: told.Number}, c.Gone)
	if err != api.OK {
		x.giveBack(x.w, c.Made)
		return api.Told{}, false, err
	}
	if !done {
		x.trie.Undo(x.w, c.Made) // where nothing was made, too: it is a line then
		return api.Told{}, false, api.OK
	}
	return told, true, api.OK
}
