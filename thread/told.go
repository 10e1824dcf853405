package thread

import "opaque/api"

// Told tells the thread's latest attempt as it stands. Ahead of its first one the Start is 0.
func (t *Thread) Told() api.Attempt {
	return t.attempt.told
}

// Result tells what has come of the job of that number.
func (t *Thread) Result(job int) api.Result {
	for i, result := range t.results {
		if t.mine[i] == job {
			return result
		}
	}
	return api.Result{}
}

// start begins an attempt, behind the look at the clock. It is called while there is a job.
func (t *Thread) start(clock int, number int) {
	t.attempt = attempt{told: api.Attempt{Thread: t.number, Job: t.mine[t.current], Start: number, Valid: clock}}
	t.step = running
}

// note tells of the Read or Write that the code is at.
func (a *attempt) note(value int) {
	a.told.Notes = append(a.told.Notes, api.Note{Op: a.turn.Op, Addr: a.turn.Addr, Value: value})
}

// conclude is called as the attempt's last access is made: up to there it is Open, whatever it has come to.
func (a *attempt) conclude(fate int, number int) {
	a.told.Fate = fate
	a.told.End = number
}
