package thread

import (
	"opaque/api"
	"opaque/cells"
)

// extend begins to move the valid time on to the clock, behind a Read or behind a stripe that was got.
func (t *Thread) extend() {
	t.load(extendClock, cells.Clock)
}

func (t *Thread) followExtend(seen int) {
	a := &t.attempt
	switch t.step {
	case extendClock:
		a.clock = seen
		a.at = 0
	case extendVersion:
		if seen != a.reads[a.at].version {
			t.fail()
			return
		}
		a.at++
	}
	t.extendNext()
}

// extendNext looks at the stripes of the read log from the place at on.
func (t *Thread) extendNext() {
	a := &t.attempt
	if a.at < len(a.reads) {
		t.load(extendVersion, cells.Version(a.reads[a.at].stripe))
		return
	}
	a.told.Valid = a.clock
	t.endExtended()
}

// endExtended ends the Read or Write for which the valid time was moved on.
func (t *Thread) endExtended() {
	if t.attempt.turn.Op == api.Read {
		t.give(t.attempt.value)
	} else {
		t.writeGot()
	}
}
