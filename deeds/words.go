package deeds

import (
	"trencher/api"
	"trencher/block"
)

// mostEdits is how many edits a batch has, at most.
const mostEdits = 16

// counted has the store of an object's first word once n more point to it; none of no object; false, if so many may not point to it.
func counted(o api.Live, n int) ([]api.Entry, bool) {
	if o == (api.Live{}) {
		return nil, true
	}
	more, ok := block.More(o.Object, n)
	if !ok {
		return nil, false
	}
	// With as many as may be it is an object that may be.
	x, _ := block.Word(more)
	return []api.Entry{{At: o.At, X: x}}, true
}

// point lets, in what is to be published, a destination point to a target: what it pointed to.
func (a *act) point(d api.Dest, target int) (int, api.Errno) {
	to, ok := a.dest(d)
	if !ok {
		return 0, api.ErrDest
	}
	next, ok := a.object(target)
	if target != 0 && !ok {
		return 0, api.ErrStale
	}
	was := int(a.load(to))
	if was == target {
		return was, api.OK
	}
	more, ok := counted(next, 1)
	if !ok {
		return 0, api.ErrFull
	}
	old, _ := a.object(was)
	// As the destination points to it, there is one that can be taken away.
	less, _ := counted(old, -1)
	a.come(api.Entry{At: to, X: uint64(target)})
	a.come(more...)
	a.come(less...)
	return was, api.OK
}

// set lets a destination point to a target.
func (a *act) set() api.Answer {
	return a.under(api.LockPublish, func() api.Answer {
		was, code := a.point(a.call.Dest, a.call.Target)
		if code != api.OK {
			return refused(code)
		}
		a.publish()
		return api.Answer{At: was}
	})
}

// get tells what a destination points to.
func (a *act) get() api.Answer {
	return a.under(api.LockPublish, func() api.Answer {
		to, ok := a.dest(a.call.Dest)
		if !ok {
			return refused(api.ErrDest)
		}
		return api.Answer{At: int(a.load(to))}
	})
}

// onData does something, under LockPublish, with where so many data begin, if an object has them.
func (a *act) onData(many int, do func(at int) api.Answer) api.Answer {
	return a.under(api.LockPublish, func() api.Answer {
		at, code := a.data(a.call.Dest.Object, a.call.Dest.Index, many)
		if code != api.OK {
			return refused(code)
		}
		return do(at)
	})
}

// write stores a datum, which isn't kept by that.
func (a *act) write() api.Answer {
	return a.onData(1, func(at int) api.Answer {
		a.Store(at, a.call.X)
		return api.Answer{}
	})
}

// read tells a datum.
func (a *act) read() api.Answer {
	return a.onData(1, func(at int) api.Answer {
		return api.Answer{X: a.load(at)}
	})
}

// persist keeps data.
func (a *act) persist() api.Answer {
	many := a.call.Many
	return a.onData(many, func(at int) api.Answer {
		// Nothing is stored: it is only their lines that count.
		a.flush(blank(at, many)...)
		return api.Answer{}
	})
}

// edit does, in what is to be published, what an edit tells.
func (a *act) edit(e api.Edit) api.Errno {
	if !e.Data {
		_, code := a.point(e.Dest, e.Target)
		return code
	}
	at, code := a.data(e.Dest.Object, e.Dest.Index, 1)
	if code == api.OK {
		a.come(api.Entry{At: at, X: e.X})
	}
	return code
}

// tx does all edits at once, or none.
func (a *act) tx() api.Answer {
	return a.under(api.LockPublish, func() api.Answer {
		if n := len(a.call.Edits); n < 1 || n > mostEdits {
			return refused(api.ErrArg)
		}
		for _, e := range a.call.Edits {
			if code := a.edit(e); code != api.OK {
				return refused(code)
			}
		}
		if len(a.words()) > api.MaxEntries {
			return refused(api.ErrFull)
		}
		a.publish()
		return api.Answer{}
	})
}
