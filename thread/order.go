package thread

import (
	"opaque/api"
	"opaque/cells"
)

// An access hangs on nothing but what its thread knows ahead of it, so it is laid down as soon as its step is reached.

func (t *Thread) load(step int, cell int) {
	t.step = step
	t.order = cells.Order{Kind: api.Load, Cell: cell}
}

func (t *Thread) store(step int, cell int, put int) {
	t.step = step
	t.order = cells.Order{Kind: api.Store, Cell: cell, Put: put}
}

func (t *Thread) swap(step int, cell int, from int, put int) {
	t.step = step
	t.order = cells.Order{Kind: api.Swap, Cell: cell, From: from, Put: put}
}

func (t *Thread) take(step int, cell int) {
	t.step = step
	t.order = cells.Order{Kind: api.Take, Cell: cell}
}

func (t *Thread) ownStatus() int {
	return cells.Status(t.config, t.number)
}

// statusOf is the status of the thread of that name.
func (t *Thread) statusOf(name int) int {
	return cells.Status(t.config, name-1)
}

// name is how the thread stands in the gate, in owners and in marks, where 0 is nobody.
func (t *Thread) name() int {
	return t.number + 1
}

// stripe is that of the word which the code is at.
func (t *Thread) stripe() int {
	return t.attempt.turn.Addr % t.config.Stripes
}

func rankIn(status int) int {
	return status / statusBase
}

func markIn(status int) int {
	return status % statusBase
}

func marked(status int) bool {
	return markIn(status) != 0
}
