package fibshift

import (
	"slices"

	"fibshift/api"
	"fibshift/engine"
	"fibshift/prefix"
)

// batch makes changes that can be taken back together.
type batch struct {
	routes engine.Engine
	undo   []func()
}

// change makes one change, if it can be.
func (b *batch) change(c api.Change) api.Errno {
	p := prefixOf(c)
	if !prefix.Valid(p) {
		return api.ErrPrefix
	}
	if c.Next != 0 && !isNext(c.Next) {
		return api.ErrNext
	}
	old := engine.Set(b.routes, p, c.Next)
	if c.Next == 0 && old == 0 {
		return api.ErrNone
	}
	b.undo = append(b.undo, func() { engine.Set(b.routes, p, old) })
	return api.OK
}

// takeBack takes the changes back, the last one first: an earlier one of the same prefix has the older Next.
func (b *batch) takeBack() {
	for _, undo := range slices.Backward(b.undo) {
		undo()
	}
}

func prefixOf(c api.Change) api.Prefix { return api.Prefix{Addr: c.Addr, Len: c.Len} }
