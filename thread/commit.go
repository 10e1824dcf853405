package thread

import (
	"opaque/api"
	"opaque/cells"
)

// followCommit is the part of a commit that may still be turned back.
func (t *Thread) followCommit(seen int) {
	a := &t.attempt
	switch t.step {
	case commitStatus:
		if marked(seen) {
			t.fail()
			return
		}
		t.swap(commitGate, cells.Gate, 0, t.name())
	case commitGate:
		// Somebody in the gate leaves the step as it is: the same try again.
		if seen == 0 {
			t.load(commitClock, cells.Clock)
		}
	case commitClock:
		a.clock = seen
		a.at = 0
		t.checkNext()
	case commitCheck:
		if seen != a.reads[a.at].version {
			t.failInGate()
			return
		}
		a.at++
		t.checkNext()
	}
}

// checkNext looks at the stripes of the read log from the place at on, and then shuts those that are held. As long as the clock stands at the valid time, nothing can have changed.
func (t *Thread) checkNext() {
	a := &t.attempt
	for a.clock != a.told.Valid && a.at < len(a.reads) {
		stripe := a.reads[a.at].stripe
		if !a.holds(stripe) {
			t.load(commitCheck, cells.Version(stripe))
			return
		}
		a.at++
	}
	a.at = 0
	t.shutNext()
}

// stamp is that of an attempt in the gate, or behind it.
func (a *attempt) stamp() int {
	return a.clock + 1
}

// followCommitStore is the part of a commit that nothing turns back.
func (t *Thread) followCommitStore() {
	a := &t.attempt
	switch t.step {
	case commitShut:
		a.at++
		t.shutNext()
	case commitStamp:
		a.told.Stamp = a.stamp()
		t.store(commitLeave, cells.Gate, 0)
	case commitLeave:
		a.at = 0
		t.putNext()
	case commitWord:
		a.at++
		t.putNext()
	case commitVersion:
		t.store(commitOwner, cells.Owner(t.config, a.held[a.at]), 0)
	case commitOwner:
		a.at++
		t.releaseNext()
	}
}

// shutNext shuts the stripes from the place at on, and then stamps.
func (t *Thread) shutNext() {
	a := &t.attempt
	if a.at < len(a.held) {
		t.store(commitShut, cells.Version(a.held[a.at]), api.Shut)
	} else {
		t.store(commitStamp, cells.Clock, a.stamp())
	}
}

// putNext puts the words of the write log from the place at on, and then turns to the stripes.
func (t *Thread) putNext() {
	a := &t.attempt
	if a.at < len(a.writes) {
		w := a.writes[a.at]
		t.store(commitWord, cells.Word(t.config, w.addr), w.value)
	} else {
		a.at = 0
		t.releaseNext()
	}
}

// releaseNext opens and gives back the stripes from the place at on, and then ends.
func (t *Thread) releaseNext() {
	a := &t.attempt
	if a.at < len(a.held) {
		t.store(commitVersion, cells.Version(a.held[a.at]), a.stamp())
	} else {
		t.endAttempt()
	}
}
