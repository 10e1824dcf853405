// Package thread does the jobs of one thread, access by access.
package thread

import (
	"opaque/api"
	"opaque/cells"
	"opaque/machine"
)

// The steps of a thread: what its next access is for. In the first three it has none ahead of it.
const (
	idle       = iota // all its jobs are finished
	running           // its code goes on without an access
	obstructed        // another thread came in its way
	begin
	readHeld
	readVersion
	readWord
	readAgain
	getStatus
	getOwner
	getVersion
	takeTicket
	showRank
	commitStatus
	commitGate
	commitClock
	commitShut
	commitStamp
	commitLeave
	commitWord
	commitVersion
	commitOwner
	letGo
	end
)

// statusBase parts a status: the rank is how often it goes into it, the mark what remains.
const statusBase = 8

// Thread is a thread and how far it has come.
type Thread struct {
	config  api.Config
	number  int
	mine    []int // the numbers of its jobs
	current int   // which of these it is at
	rank    int
	step    int
	order   cells.Order // the access of this step
	attempt attempt
}

// attempt is what a thread forgets when its next attempt begins.
type attempt struct {
	machine machine.Machine
	turn    machine.Turn // what the code has come to
	valid   int
	writes  []written
	held    []int // stripes
	version int   // what a Read saw of the version ahead of the word
	value   int   // what it saw of the word then
	stamp   int
	at      int // the place in the list that is being gone through
}

// written is a word in the write log.
type written struct {
	addr  int
	value int
}

// New is the thread of this number ahead of its first job.
func New(c api.Config, number int, jobs []api.Job) Thread {
	t := Thread{config: c, number: number}
	for i, job := range jobs {
		if job.Thread == number {
			t.mine = append(t.mine, i)
		}
	}
	t.beginAttempt()
	return t
}

// Pick makes the thread's next access, and all that follows it up to where another one is due. The jobs are those that New was given.
func (t *Thread) Pick(jobs []api.Job, shared *cells.Cells) api.Access {
	if t.step == idle || t.step == obstructed {
		return api.Access{}
	}
	code := jobs[t.mine[t.current]].Code
	access := shared.Make(t.order)
	t.follow(access)
	// Every turn of the machine costs fuel, so this ends.
	for t.step == running {
		t.turn(code)
	}
	return access
}

// follow goes on from an access that was just made.
func (t *Thread) follow(access api.Access) {
	switch t.step {
	case begin:
		t.attempt = attempt{valid: access.Seen}
		t.step = running
	case readHeld, readVersion, readWord, readAgain:
		t.followRead(access.Seen)
	case getStatus, getOwner, getVersion:
		t.followGet(access.Seen)
	case takeTicket, showRank:
		t.followTicket(access)
	case commitStatus, commitGate, commitClock:
		t.followCommit(access.Seen)
	case commitShut, commitStamp, commitLeave, commitWord, commitVersion, commitOwner:
		t.followCommitStore()
	case letGo:
		t.attempt.at++
		t.letGoNext()
	case end:
		t.current++
		t.rank = 0
		t.beginAttempt()
	}
}

// turn runs the code up to its next Read or Write, or to its fate.
func (t *Thread) turn(code []api.Ins) {
	turn := t.attempt.machine.Next(code, t.config.Fuel, t.config.Words)
	t.attempt.turn = turn
	switch turn.Fate {
	case api.Open:
		t.touchWord()
	case api.Done:
		t.finish()
	default:
		t.attempt.at = 0
		t.letGoNext()
	}
}

func (t *Thread) touchWord() {
	if t.attempt.turn.Op == api.Read {
		t.read()
	} else {
		t.write()
	}
}

func (t *Thread) finish() {
	if len(t.attempt.held) == 0 {
		t.endAttempt()
	} else {
		t.load(commitStatus, t.ownStatus())
	}
}

func (t *Thread) beginAttempt() {
	if t.current < len(t.mine) {
		t.load(begin, cells.Clock)
	} else {
		t.step = idle
	}
}

func (t *Thread) endAttempt() {
	t.store(end, t.ownStatus(), 0)
}

// letGoNext gives back the stripes of a code that did not come to its end, from the place at on.
func (t *Thread) letGoNext() {
	a := &t.attempt
	if a.at < len(a.held) {
		t.store(letGo, cells.Owner(t.config, a.held[a.at]), 0)
	} else {
		t.endAttempt()
	}
}

// obstruct is where another thread has come in the way. What a thread does then is not built yet: it makes no access any more.
func (t *Thread) obstruct() {
	t.step = obstructed
}
