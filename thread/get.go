package thread

import "opaque/cells"

// get begins to get the stripe of the word that is to be written. A thread that is in the way sends it back to here.
func (t *Thread) get() {
	t.load(getStatus, t.ownStatus())
}

func (t *Thread) followGet(seen int) {
	switch t.step {
	case getStatus:
		if marked(seen) {
			t.fail()
			return
		}
		t.swap(getOwner, cells.Owner(t.config, t.stripe()), 0, t.name())
	case getOwner:
		if seen != 0 {
			t.meet(seen)
			return
		}
		t.attempt.held = append(t.attempt.held, t.stripe())
		t.load(getVersion, cells.Version(t.stripe()))
	case rivalStatus:
		t.weigh(seen)
	case markRival:
		// Whether the mark came there or not: the rival may be gone by now.
		t.get()
	case getVersion:
		if seen > t.attempt.told.Valid {
			t.extend()
			return
		}
		t.writeGot()
	}
}

// meet is where another thread holds the stripe.
func (t *Thread) meet(rival int) {
	if t.rank == 0 {
		t.fail()
		return
	}
	t.attempt.rival = rival
	t.load(rivalStatus, t.statusOf(rival))
}

// weigh decides by the rival's status who of the two goes on.
func (t *Thread) weigh(status int) {
	a := &t.attempt
	rank := rankIn(status)
	if rank > 0 && rank < t.rank {
		a.wayTo = a.rival
		t.fail()
		return
	}
	if marked(status) {
		t.get()
		return
	}
	t.swap(markRival, t.statusOf(a.rival), status, status+t.name())
}
