package pool

import (
	"trencher/api"
	"trencher/env"
	"trencher/open"
)

// lose lets the region be without power: nobody has a lock any more, and no call is done till it is opened.
func (p *Pool) lose(pick func(many int) int) {
	p.region.Crash(pick)
	p.table.Drop()
	p.cut = true
}

// opening is a run that opens the region.
func (p *Pool) opening() *env.Run {
	return env.New(p.region, p.table, 0, open.Deed(p.region.Size()))
}

// rise opens the region, and lets calls be done again, without a limit; ErrCorrupt, if it can't be opened: then none goes any more.
func (p *Pool) rise() api.Errno {
	run := p.opening()
	run.All(unlimited)
	code := api.Errno(run.Answer()[0])
	if code == api.OK {
		code = p.know()
	}
	p.corrupt = code != api.OK
	p.cut, p.left = false, unlimited
	return code
}

// FailIn lets power fail, and again while the region is opened, behind so many steps of that as each fuse tells (below 0: all); then it is opened: OK, or ErrCorrupt.
func (p *Pool) FailIn(fuses []int, pick func(many int) int) api.Errno {
	if p.dark() {
		return api.ErrPower
	}
	p.lose(pick)
	for _, fuse := range fuses {
		p.opening().All(fuse)
		p.lose(pick)
	}
	return p.rise()
}

// Fail lets power fail, and opens the region: OK, or ErrCorrupt.
func (p *Pool) Fail(pick func(many int) int) api.Errno {
	return p.FailIn(nil, pick)
}
