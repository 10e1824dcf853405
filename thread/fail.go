package thread

import "opaque/cells"

// fail begins to undo the attempt. One that is in the gate must leave it first: see failInGate.
func (t *Thread) fail() {
	t.attempt.at = 0
	t.undoNext()
}

func (t *Thread) failInGate() {
	t.store(failGate, cells.Gate, 0)
}

func (t *Thread) followFail(put int) {
	switch t.step {
	case failGate:
		t.fail()
	case failOwner:
		t.attempt.at++
		t.undoNext()
	case failTicket:
		t.rank = put
		t.showFailure()
	}
}

// undoNext gives back the stripes of an attempt that fails, from the place at on.
func (t *Thread) undoNext() {
	if t.attempt.at < len(t.attempt.held) {
		t.giveBack(failOwner)
	} else {
		t.countFailure()
	}
}

// countFailure gives a rank to a job that has failed too often, so that it comes to its turn.
func (t *Thread) countFailure() {
	t.failures++
	if t.rank == 0 && t.failures > t.config.Retry {
		t.take(failTicket, cells.Tickets)
	} else {
		t.showFailure()
	}
}

func (t *Thread) showFailure() {
	t.store(failStatus, t.ownStatus(), statusBase*t.rank)
}

// lose decides what the thread does ahead of its next attempt, by what it saw in its own status as the last one ended.
func (t *Thread) lose(status int, draw int) {
	winner := markIn(status)
	if winner == 0 {
		winner = t.attempt.wayTo
	}
	if winner != 0 {
		t.load(await, t.statusOf(winner))
		return
	}
	t.rest = t.restBy(draw)
	t.beginAttempt()
}

// restBy is how many picks a draw makes the thread rest.
func (t *Thread) restBy(draw int) int {
	if draw < 0 {
		return 0
	}
	most := t.failures
	if most > t.config.Cap {
		most = t.config.Cap
	}
	return draw % (1 + most)
}

// awaitWinner begins the next attempt as soon as the winner would not win again. Else the step stays as it is: the same look again.
func (t *Thread) awaitWinner(status int) {
	rank := rankIn(status)
	if rank == 0 || t.rank > 0 && rank > t.rank {
		t.beginAttempt()
	}
}
