// Package thread does the jobs of one thread, access by access.
package thread

import (
	"opaque/api"
	"opaque/cells"
	"opaque/machine"
)

// The steps of a thread: what its next access is for. In the first two it has none ahead of it.
const (
	idle    = iota // all its jobs are finished
	running        // its code goes on without an access
	begin
	readHeld
	readVersion
	readWord
	readAgain
	getStatus
	getOwner
	rivalStatus
	markRival
	getVersion
	extendClock
	extendVersion
	takeTicket
	showRank
	commitStatus
	commitGate
	commitClock
	commitCheck
	commitShut
	commitStamp
	commitLeave
	commitWord
	commitVersion
	commitOwner
	letGo
	end
	failGate
	failOwner
	failTicket
	failStatus
	await
)

// statusBase parts a status: the rank is how often it goes into it, the mark what remains.
const statusBase = 8

// Thread is a thread and how far it has come.
type Thread struct {
	config   api.Config
	number   int
	mine     []int        // the numbers of its jobs
	current  int          // which of these it is at
	results  []api.Result // of those that are finished, in this order
	rank     int
	failures int // of the job that it is at
	rest     int // how many of its picks make no access yet
	step     int
	order    cells.Order // the access of this step
	attempt  attempt
}

// attempt is what a thread forgets when its next attempt begins.
type attempt struct {
	told    api.Attempt // its valid time stands here alone
	machine machine.Machine
	turn    machine.Turn // what the code has come to
	reads   []looked
	writes  []written
	held    []int // stripes
	version int   // what a Read saw of the version ahead of the word
	value   int   // what it saw of the word then
	rival   int   // the name of the thread that holds the stripe it would get
	wayTo   int   // the name of the thread that it gave way to, or 0
	clock   int   // what it saw of the clock as it began to extend, or in the gate
	at      int   // the place in the list that is being gone through
}

// looked is a stripe in the read log, with its version.
type looked struct {
	stripe  int
	version int
}

// written is a word in the write log.
type written struct {
	addr  int
	value int
}

// New is the thread of this number ahead of its first job.
func New(c api.Config, number int, jobs []api.Job) Thread {
	t := Thread{config: c, number: number}
	for i, job := range jobs {
		if job.Thread == number {
			t.mine = append(t.mine, i)
		}
	}
	t.beginAttempt()
	return t
}

// Pick makes the thread's next access, and all that follows it up to where another one is due. The jobs are those that New was given. The number is the pick's, above 0.
func (t *Thread) Pick(jobs []api.Job, shared *cells.Cells, number int, draw int) api.Access {
	if t.step == idle {
		return api.Access{}
	}
	if t.rest > 0 {
		t.rest--
		return api.Access{}
	}
	code := jobs[t.mine[t.current]].Code
	access := shared.Make(t.order)
	t.follow(access, number, draw)
	// Every turn of the machine costs fuel, so this ends.
	for t.step == running {
		t.turn(code)
	}
	return access
}

// follow goes on from an access that was just made.
func (t *Thread) follow(access api.Access, number int, draw int) {
	switch t.step {
	case begin:
		t.start(access.Seen, number)
	case readHeld, readVersion, readWord, readAgain:
		t.followRead(access.Seen)
	case getStatus, getOwner, rivalStatus, markRival, getVersion:
		t.followGet(access.Seen)
	case extendClock, extendVersion:
		t.followExtend(access.Seen)
	case takeTicket, showRank:
		t.followTicket(access)
	case commitStatus, commitGate, commitClock, commitCheck:
		t.followCommit(access.Seen)
	case commitShut, commitStamp, commitLeave, commitWord, commitVersion, commitOwner:
		t.followCommitStore()
	case letGo:
		t.attempt.at++
		t.letGoNext()
	case end:
		t.finishJob(number)
	case failGate, failOwner, failTicket:
		t.followFail(access.Put)
	case failStatus:
		t.attempt.conclude(api.Failed, number)
		t.lose(access.Seen, draw)
	case await:
		t.awaitWinner(access.Seen)
	}
}

// turn runs the code up to its next Read or Write, or to its fate.
func (t *Thread) turn(code []api.Ins) {
	turn := t.attempt.machine.Next(code, t.config.Fuel, t.config.Words)
	t.attempt.turn = turn
	switch turn.Fate {
	case api.Open:
		t.touchWord()
	case api.Done:
		t.finish()
	default:
		t.attempt.at = 0
		t.letGoNext()
	}
}

func (t *Thread) touchWord() {
	if t.attempt.turn.Op == api.Read {
		t.read()
	} else {
		t.write()
	}
}

func (t *Thread) finish() {
	if len(t.attempt.held) == 0 {
		t.endAttempt()
	} else {
		t.load(commitStatus, t.ownStatus())
	}
}

func (t *Thread) beginAttempt() {
	if t.current < len(t.mine) {
		t.load(begin, cells.Clock)
	} else {
		t.step = idle
	}
}

func (t *Thread) endAttempt() {
	t.store(end, t.ownStatus(), 0)
}

func (t *Thread) finishJob(number int) {
	a := &t.attempt
	a.conclude(a.turn.Fate, number)
	t.results = append(t.results, api.Result{Fate: a.turn.Fate, Regs: a.machine.Regs})
	t.current++
	t.rank = 0
	t.failures = 0
	t.beginAttempt()
}

// letGoNext gives back the stripes of a code that did not come to its end, from the place at on.
func (t *Thread) letGoNext() {
	if t.attempt.at < len(t.attempt.held) {
		t.giveBack(letGo)
	} else {
		t.endAttempt()
	}
}

// giveBack frees the stripe at the place at. It is called with such a place alone.
func (t *Thread) giveBack(step int) {
	stripe := t.attempt.held[t.attempt.at]
	t.store(step, cells.Owner(t.config, stripe), 0)
}
