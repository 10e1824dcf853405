package opaque

import (
	"iter"
	"slices"
	"testing"

	"opaque/api"
)

// throng is several threads, each written down as the document reads: plain straight code that stops ahead of each access until it is picked.
type throng struct {
	setup   api.Setup
	cells   []int
	members []*member
	access  api.Access // of this pick
	draw    int        // of this pick
	count   int        // of the picks so far
	begun   []*api.Attempt
	results []api.Result
	met     map[string]int
	stamped []int // the jobs that have stored a stamp, in this order
}

// member is one of the threads.
type member struct {
	*throng
	me     int
	resume func() (struct{}, bool)
	stop   func()
	pause  func(struct{}) bool

	job, rank, failed int

	valid  int
	log    [][2]int // stripes with versions
	held   []int
	addrs  []int // of the write log, in its order
	values [8]int
	inGate bool
	wayTo  int // 1 more than the thread that it gave way to
	told   *api.Attempt
}

// What a member throws to leave an attempt that has failed, or a play that is over.
type undone struct{}
type over struct{}

func newThrong(s api.Setup) *throng {
	g := &throng{setup: s, met: map[string]int{}, results: make([]api.Result, len(s.Jobs))}
	g.cells = append(make([]int, 3+2*s.Config.Stripes+s.Config.Threads), s.Mem...)
	for me := range s.Config.Threads {
		m := &member{throng: g, me: me}
		m.resume, m.stop = iter.Pull(func(yield func(struct{}) bool) {
			m.pause = yield
			m.live()
		})
		g.members = append(g.members, m)
		m.resume()
	}
	return g
}

func (g *throng) end() {
	for _, m := range g.members {
		m.stop()
	}
}

func (g *throng) pick(p api.Pick) api.Access {
	g.access = api.Access{}
	g.draw = p.Draw
	g.count++
	if p.Thread >= 0 && p.Thread < len(g.members) {
		g.members[p.Thread].resume()
	}
	return g.access
}

// history is all attempts as they stand.
func (g *throng) history() []api.Attempt {
	var h []api.Attempt
	for _, a := range g.begun {
		h = append(h, *a)
	}
	return h
}

func (g *throng) version(stripe int) int { return 3 + stripe }
func (g *throng) owner(stripe int) int   { return 3 + g.setup.Config.Stripes + stripe }
func (g *throng) status(thread int) int  { return 3 + 2*g.setup.Config.Stripes + thread }
func (g *throng) word(addr int) int      { return g.status(g.setup.Config.Threads) + addr }

func (m *member) wait() {
	if !m.pause(struct{}{}) {
		panic(over{})
	}
}

func (m *member) make(kind, cell, put int) int {
	seen := m.cells[cell]
	m.cells[cell] = put
	m.access = api.Access{Kind: kind, Cell: cell, Seen: seen, Put: put}
	return seen
}

func (m *member) load(cell int) int {
	m.wait()
	return m.make(api.Load, cell, m.cells[cell])
}

func (m *member) store(cell, put int) int {
	m.wait()
	return m.make(api.Store, cell, put)
}

func (m *member) swap(cell, from, to int) int {
	m.wait()
	if m.cells[cell] != from {
		return m.make(api.Swap, cell, m.cells[cell])
	}
	return m.make(api.Swap, cell, to)
}

func (m *member) take() int {
	m.wait()
	return m.make(api.Take, 1, m.cells[1]+1) + 1
}

// live does the thread's jobs.
func (m *member) live() {
	defer func() {
		if r := recover(); r != nil && r != (over{}) {
			panic(r)
		}
	}()
	for n, job := range m.setup.Jobs {
		if job.Thread != m.me {
			continue
		}
		m.job, m.rank, m.failed = n, 0, 0
		for m.attempt(job.Code) == api.Failed {
		}
	}
}

func (m *member) attempt(code []api.Ins) (fate int) {
	defer func() {
		r := recover()
		if r != nil && r != (undone{}) {
			panic(r)
		}
		if r != nil {
			fate = api.Failed
		}
	}()
	m.valid = m.load(0)
	m.told = &api.Attempt{Thread: m.me, Job: m.job, Start: m.count, Valid: m.valid}
	m.begun = append(m.begun, m.told)
	m.log, m.held, m.addrs, m.inGate, m.wayTo = nil, nil, nil, false, 0
	fate, regs := interpret(m.setup.Config, code, m)
	if fate == api.Done && len(m.held) > 0 {
		m.commit()
	}
	if fate != api.Done {
		for _, s := range m.held {
			m.store(m.owner(s), 0)
		}
	}
	m.store(m.status(m.me), 0)
	m.told.End, m.told.Fate = m.count, fate
	m.results[m.job] = api.Result{Fate: fate, Regs: regs}
	return fate
}

func (m *member) read(a int) int {
	value := m.fetch(a)
	m.told.Notes = append(m.told.Notes, api.Note{Op: api.Read, Addr: a, Value: value})
	return value
}

func (m *member) fetch(a int) int {
	s := a % m.setup.Config.Stripes
	if slices.Contains(m.addrs, a) {
		return m.values[a]
	}
	if slices.Contains(m.held, s) {
		return m.load(m.word(a))
	}
	for {
		first := m.load(m.version(s))
		if first == api.Shut {
			m.met["shut in a Read"]++
			continue
		}
		value := m.load(m.word(a))
		if m.load(m.version(s)) != first {
			m.met["changed in a Read"]++
			continue
		}
		if !slices.ContainsFunc(m.log, func(l [2]int) bool { return l[0] == s }) {
			m.log = append(m.log, [2]int{s, first})
		}
		if first > m.valid {
			m.extend("in a Read")
		}
		return value
	}
}

func (m *member) write(a, value int) {
	c := m.setup.Config
	s := a % c.Stripes
	got := !slices.Contains(m.held, s)
	if got {
		m.get(s)
	}
	if !slices.Contains(m.addrs, a) {
		m.addrs = append(m.addrs, a)
	}
	m.values[a] = value
	m.told.Notes = append(m.told.Notes, api.Note{Op: api.Write, Addr: a, Value: value})
	if got && m.rank == 0 && c.Greedy > 0 && c.Greedy == len(m.held) {
		m.rank = m.take()
		if m.swap(m.status(m.me), 0, 8*m.rank) != 0 {
			m.fail("marked as its rank comes")
		}
	}
}

func (m *member) get(s int) {
	for {
		if m.load(m.status(m.me))%8 != 0 {
			m.fail("marked as a stripe is got")
		}
		owner := m.swap(m.owner(s), 0, m.me+1)
		if owner == 0 {
			break
		}
		if m.rank == 0 {
			m.fail("an owner without a rank")
		}
		u := m.status(owner - 1)
		seen := m.load(u)
		if seen/8 > 0 && seen/8 < m.rank {
			m.wayTo = owner
			m.fail("gives way")
		}
		if seen%8 != 0 {
			m.met["another's mark"]++
			continue
		}
		if m.swap(u, seen, seen+m.me+1) == seen {
			m.met["marks"]++
		} else {
			m.met["misses with its mark"]++
		}
	}
	m.held = append(m.held, s)
	if m.load(m.version(s)) > m.valid {
		m.extend("as a stripe is got")
	}
}

func (m *member) extend(where string) {
	clock := m.load(0)
	for _, l := range m.log {
		if m.load(m.version(l[0])) != l[1] {
			m.fail("extends in vain " + where)
		}
	}
	m.valid = clock
	m.told.Valid = clock
	m.met["extends "+where]++
}

func (m *member) commit() {
	if m.load(m.status(m.me))%8 != 0 {
		m.fail("marked as it commits")
	}
	for m.swap(2, 0, m.me+1) != 0 {
		m.met["the gate is taken"]++
	}
	m.inGate = true
	clock := m.load(0)
	if clock != m.valid {
		for _, l := range m.log {
			if !slices.Contains(m.held, l[0]) && m.load(m.version(l[0])) != l[1] {
				m.fail("the log does not stand in the gate")
			}
		}
		m.met["the log stands in the gate"]++
	}
	for _, s := range m.held {
		m.store(m.version(s), api.Shut)
	}
	m.store(0, clock+1)
	m.told.Stamp = clock + 1
	m.stamped = append(m.stamped, m.job)
	m.store(2, 0)
	for _, a := range m.addrs {
		m.store(m.word(a), m.values[a])
	}
	for _, s := range m.held {
		m.store(m.version(s), clock+1)
		m.store(m.owner(s), 0)
	}
}

func (m *member) fail(why string) {
	m.met[why]++
	if m.inGate {
		m.store(2, 0)
	}
	for _, s := range m.held {
		m.store(m.owner(s), 0)
	}
	m.failed++
	if m.rank == 0 && m.failed > m.setup.Config.Retry {
		m.rank = m.take()
		m.met["a ticket behind failures"]++
	}
	mark := m.store(m.status(m.me), 8*m.rank) % 8
	m.told.End, m.told.Fate = m.count, api.Failed
	if mark != 0 {
		m.awaitWinner(mark, "its mark")
	} else if m.wayTo != 0 {
		m.awaitWinner(m.wayTo, "giving way")
	} else {
		m.rest(m.draw)
	}
	panic(undone{})
}

func (m *member) awaitWinner(winner int, why string) {
	m.met["a winner by "+why]++
	if m.wayTo != 0 && m.wayTo != winner {
		m.met["a mark ahead of giving way"]++
	}
	for {
		rank := m.load(m.status(winner-1)) / 8
		if rank == 0 {
			return
		}
		if m.rank > 0 && rank > m.rank {
			m.met["the winner comes back worse"]++
			return
		}
		m.met["waits"]++
	}
}

func (m *member) rest(draw int) {
	if draw < 0 {
		m.met["a draw below 0"]++
		return
	}
	picks := draw % (1 + min(m.failed, m.setup.Config.Cap))
	for range picks {
		m.wait()
		m.met["rests"]++
	}
}

// crowdSetup has several threads that come in one another's way.
func (d *dice) crowdSetup() api.Setup {
	c := api.Config{
		Threads: 2 + d.roll(3), Words: 1 + d.roll(4), Stripes: 1 + d.roll(4),
		Greedy: d.roll(4), Retry: d.roll(5), Cap: d.roll(9), Fuel: 1 + d.roll(40),
	}
	if d.roll(2) == 0 {
		c.Retry = d.roll(2)
	}
	s := api.Setup{Config: c}
	for range c.Words {
		s.Mem = append(s.Mem, d.roll(65536))
	}
	jobs := 2 + d.roll(7)
	for n := range jobs {
		code := d.busyCode(c.Words)
		if d.roll(3) > 0 {
			code = d.plainCode(c.Words)
		}
		s.Jobs = append(s.Jobs, api.Job{Thread: (n + d.roll(2)) % c.Threads, Code: code})
	}
	return s
}

// plainCode reads and writes words without a fault: what it writes hangs on what it has read.
func (d *dice) plainCode(words int) []api.Ins {
	code := []api.Ins{set(3, d.roll(65536))}
	count := 1 + d.roll(6)
	for range count {
		code = append(code, set(1, d.roll(words)))
		if d.roll(2) == 0 {
			code = append(code, read(2, 1), ins(api.Add, 3, 3, 2))
		} else {
			code = append(code, write(1, 3))
		}
	}
	return code
}

// crowdPicks has runs of picks of one thread, long ones and short ones.
func (d *dice) crowdPicks(threads int) []api.Pick {
	var picks []api.Pick
	longest := 1 + d.roll(25)
	count := d.roll(600)
	for len(picks) < count {
		thread := d.roll(threads)
		if d.roll(30) == 0 {
			thread = d.anyNumber()
		}
		run := 1 + d.roll(longest)
		for range run {
			picks = append(picks, api.Pick{Thread: thread, Draw: d.roll(40) - 8})
		}
	}
	return picks
}

// finish picks all threads in turn until none makes an access any more.
func (g *throng) finish(d *dice) ([]api.Pick, []api.Access) {
	var picks []api.Pick
	var accesses []api.Access
	for quiet := 0; quiet <= api.MaxCap && len(picks) < 200000; quiet++ {
		for n := range g.members {
			p := api.Pick{Thread: n, Draw: d.roll(20)}
			a := g.pick(p)
			picks = append(picks, p)
			accesses = append(accesses, a)
			if a.Kind != api.None {
				quiet = -1
			}
		}
	}
	return picks, accesses
}

// inOrderOfStamps are the words behind the jobs that have a stamp, each run for itself, one behind the other.
func (g *throng) inOrderOfStamps() []int {
	words := g.setup.Mem
	for _, n := range g.stamped {
		_, words, _ = Alone(g.setup.Config, words, g.setup.Jobs[n].Code)
	}
	return words
}

// compare plays the same picks in the model and in the program, up to somewhere and up to the end of all jobs.
func compare(t *testing.T, s api.Setup, picks []api.Pick, d *dice, met map[string]int) {
	t.Helper()
	g := newThrong(s)
	var want []api.Access
	for _, p := range picks {
		want = append(want, g.pick(p))
	}
	wantPlay(t, "as modelled, cut off", s, picks, text(want), g.cells)
	wantCame(t, "as modelled, cut off", s, picks, g.results, g.history())
	rest, wantRest := g.finish(d)
	all := slices.Concat(picks, rest)
	wantCame(t, "as modelled, to the end", s, all, g.results, g.history())
	l, e := Play(s, all)
	c, eCells := Cells(s, all)
	if e != api.OK || !slices.Equal(l, slices.Concat(want, wantRest)) {
		t.Errorf("P5: as modelled, to the end: error %d, other accesses", e)
	}
	if eCells != api.OK || !slices.Equal(c, g.cells) {
		t.Errorf("P6: as modelled, to the end: error %d, %v, want %v", eCells, c, g.cells)
	}
	if words := c[len(c)-len(s.Mem):]; !slices.Equal(words, g.inOrderOfStamps()) {
		t.Errorf("P5, P6: words %v, want those of the jobs one behind the other: %v", words, g.inOrderOfStamps())
	}
	for _, m := range g.members {
		if _, unfinished := m.resume(); unfinished {
			t.Errorf("P5: thread %d does not come to an end", m.me)
		}
	}
	for what, n := range g.met {
		met[what] += n
	}
	g.end()
}

func TestSeveralThreadsAsModelled(t *testing.T) {
	d := dice{state: 10}
	met := map[string]int{}
	for range 6000 {
		s := d.crowdSetup()
		compare(t, s, d.crowdPicks(s.Config.Threads), &d, met)
		if t.Failed() {
			t.Fatalf("at %v", s)
		}
	}
	for _, what := range []string{
		"shut in a Read", "changed in a Read", "extends in a Read", "extends as a stripe is got",
		"extends in vain in a Read", "extends in vain as a stripe is got",
		"marked as a stripe is got", "marked as it commits", "marked as its rank comes", "an owner without a rank", "gives way", "the log does not stand in the gate",
		"another's mark", "marks", "misses with its mark", "the gate is taken", "the log stands in the gate", "a ticket behind failures",
		"a winner by its mark", "a winner by giving way", "a mark ahead of giving way", "the winner comes back worse", "waits", "rests", "a draw below 0",
	} {
		if met[what] < 3 {
			t.Errorf("%q came up only %d times", what, met[what])
		}
	}
}
