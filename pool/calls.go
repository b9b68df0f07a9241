package pool

import "trencher/api"

// ask does a call of a kind, by the who 0, that has what each turn gives it.
func (p *Pool) ask(kind int, turns ...func(c *api.Call)) api.Answer {
	c := api.Call{Kind: kind}
	for _, turn := range turns {
		turn(&c)
	}
	return p.Do(c)
}

// at gives a call its destination.
func at(dest api.Dest) func(c *api.Call) {
	return func(c *api.Call) { c.Dest = dest }
}

// to gives a call what its destination is to point to.
func to(target int) func(c *api.Call) {
	return func(c *api.Call) { c.Target = target }
}

// of is an object's slot, or datum.
func of(object, i int) api.Dest {
	return api.Dest{Object: object, Index: i}
}

// root is a root.
func root(i int) api.Dest {
	return api.Dest{Root: true, Index: i}
}

// MallocTo makes an object of so many words, so many of them slots, which a destination points to: its address.
func (p *Pool) MallocTo(dest api.Dest, words, slots int) (int, api.Errno) {
	answer := p.ask(api.CallMalloc, at(dest), func(c *api.Call) { c.Words, c.Slots = words, slots })
	return answer.At, answer.Code
}

// FreeFrom ends the object that a destination points to: where it was.
func (p *Pool) FreeFrom(dest api.Dest) (int, api.Errno) {
	answer := p.ask(api.CallFree, at(dest))
	return answer.At, answer.Code
}

// SetRoot lets a root point to an object; to nothing, if that is 0.
func (p *Pool) SetRoot(i, target int) api.Errno {
	return p.ask(api.CallSet, at(root(i)), to(target)).Code
}

// ClearRoot lets a root point to nothing.
func (p *Pool) ClearRoot(i int) api.Errno {
	return p.SetRoot(i, 0)
}

// StorePtr lets an object's slot point to another one; to nothing, if that is 0.
func (p *Pool) StorePtr(object, slot, target int) api.Errno {
	return p.ask(api.CallSet, at(of(object, slot)), to(target)).Code
}

// ReadData is an object's datum.
func (p *Pool) ReadData(object, i int) (uint64, api.Errno) {
	answer := p.ask(api.CallRead, at(of(object, i)))
	return answer.X, answer.Code
}

// WriteData turns an object's datum, which isn't kept till it is persisted.
func (p *Pool) WriteData(object, i int, x uint64) api.Errno {
	return p.ask(api.CallWrite, at(of(object, i)), func(c *api.Call) { c.X = x }).Code
}

// Persist keeps so many data of an object, from one on.
func (p *Pool) Persist(object, i, many int) api.Errno {
	return p.ask(api.CallPersist, at(of(object, i)), func(c *api.Call) { c.Many = many }).Code
}

// Tx does all edits at once, or none, and keeps them.
func (p *Pool) Tx(edits ...api.Edit) api.Errno {
	return p.ask(api.CallTx, func(c *api.Call) { c.Edits = edits }).Code
}
