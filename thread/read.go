package thread

import (
	"opaque/api"
	"opaque/cells"
)

// read begins a Read.
func (t *Thread) read() {
	a := &t.attempt
	place := a.find(a.turn.Addr)
	if place < len(a.writes) {
		t.give(a.writes[place].value)
		return
	}
	if a.holds(t.stripe()) {
		t.load(readHeld, cells.Word(t.config, a.turn.Addr))
		return
	}
	t.load(readVersion, cells.Version(t.stripe()))
}

func (t *Thread) followRead(seen int) {
	a := &t.attempt
	switch t.step {
	case readHeld:
		t.give(seen)
	case readVersion:
		// Shut leaves the step as it is: the same look again.
		if seen != api.Shut {
			a.version = seen
			t.load(readWord, cells.Word(t.config, a.turn.Addr))
		}
	case readWord:
		a.value = seen
		t.load(readAgain, cells.Version(t.stripe()))
	case readAgain:
		t.trust(seen)
	}
}

// trust ends a Read if its word and version belong together.
func (t *Thread) trust(version int) {
	a := &t.attempt
	if version != a.version {
		t.load(readVersion, cells.Version(t.stripe()))
		return
	}
	a.look(t.stripe(), version)
	if version > a.told.Valid {
		t.extend()
		return
	}
	t.give(a.value)
}

// look lays a version into the read log, which has each stripe once, with the version that was seen first.
func (a *attempt) look(stripe int, version int) {
	for _, l := range a.reads {
		if l.stripe == stripe {
			return
		}
	}
	a.reads = append(a.reads, looked{stripe: stripe, version: version})
}

// give ends a Read, whichever way it came to its value.
func (t *Thread) give(value int) {
	a := &t.attempt
	a.machine.Give(value)
	a.note(value)
	t.step = running
}

// find is the place of a word in the write log, or the log's length.
func (a *attempt) find(addr int) int {
	for i, w := range a.writes {
		if w.addr == addr {
			return i
		}
	}
	return len(a.writes)
}

func (a *attempt) holds(stripe int) bool {
	for _, s := range a.held {
		if s == stripe {
			return true
		}
	}
	return false
}
