package thread

import (
	"opaque/api"
	"opaque/cells"
)

// write begins a Write.
func (t *Thread) write() {
	a := &t.attempt
	if a.holds(t.stripe()) {
		a.log()
		t.step = running
		return
	}
	t.get()
}

// writeGot ends a Write for which a stripe was got.
func (t *Thread) writeGot() {
	a := &t.attempt
	a.log()
	greedy := t.config.Greedy
	if t.rank == 0 && greedy > 0 && len(a.held) == greedy {
		t.take(takeTicket, cells.Tickets)
	} else {
		t.step = running
	}
}

func (t *Thread) followTicket(access api.Access) {
	switch t.step {
	case takeTicket:
		t.rank = access.Put
		t.swap(showRank, t.ownStatus(), 0, statusBase*t.rank)
	case showRank:
		if access.Seen != 0 {
			t.fail()
			return
		}
		t.step = running
	}
}

// log lays what the code writes into the write log, which has each word once.
func (a *attempt) log() {
	w := written{addr: a.turn.Addr, value: a.turn.Value}
	a.note(w.value)
	place := a.find(w.addr)
	if place < len(a.writes) {
		a.writes[place] = w
		return
	}
	a.writes = append(a.writes, w)
}
