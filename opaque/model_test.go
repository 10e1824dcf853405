package opaque

import (
	"slices"
	"testing"

	"opaque/api"
)

// model does the jobs of a thread that has no other beside it, from the first access to the last, as plain straight code. It looks at nothing that only others could bring about.
type model struct {
	config api.Config
	me     int
	cells  []int
	made   []api.Access
	rank   int
	held   []int
	addrs  []int // of the write log, in its order
	values [8]int
	fates  []int
	took   int // tickets
}

func (m *model) touch(kind, cell, put int) int {
	seen := m.cells[cell]
	m.cells[cell] = put
	m.made = append(m.made, api.Access{Kind: kind, Cell: cell, Seen: seen, Put: put})
	return seen
}

func (m *model) load(cell int) int       { return m.touch(api.Load, cell, m.cells[cell]) }
func (m *model) store(cell, put int)     { m.touch(api.Store, cell, put) }
func (m *model) version(stripe int) int  { return 3 + stripe }
func (m *model) owner(stripe int) int    { return 3 + m.config.Stripes + stripe }
func (m *model) status() int             { return 3 + 2*m.config.Stripes + m.me }
func (m *model) word(addr int) int       { return 3 + 2*m.config.Stripes + m.config.Threads + addr }
func (m *model) inLog(addr int) bool     { return slices.Contains(m.addrs, addr) }
func (m *model) isHeld(stripe int) bool  { return slices.Contains(m.held, stripe) }
func (m *model) stripeOf(addr int) int   { return addr % m.config.Stripes }
func isAnyOf(n int, numbers ...int) bool { return slices.Contains(numbers, n) }

func (m *model) read(addr int) int {
	stripe := m.stripeOf(addr)
	if m.inLog(addr) {
		return m.values[addr]
	}
	if m.isHeld(stripe) {
		return m.load(m.word(addr))
	}
	m.load(m.version(stripe))
	value := m.load(m.word(addr))
	m.load(m.version(stripe))
	return value
}

func (m *model) write(addr, value int) {
	stripe := m.stripeOf(addr)
	got := !m.isHeld(stripe)
	if got {
		m.load(m.status())
		m.touch(api.Swap, m.owner(stripe), m.me+1)
		m.load(m.version(stripe))
		m.held = append(m.held, stripe)
	}
	if !m.inLog(addr) {
		m.addrs = append(m.addrs, addr)
	}
	m.values[addr] = value
	if got && m.rank == 0 && m.config.Greedy == len(m.held) {
		m.rank = m.cells[1] + 1
		m.touch(api.Take, 1, m.rank)
		m.touch(api.Swap, m.status(), 8*m.rank)
		m.took++
	}
}

func (m *model) commit() {
	m.load(m.status())
	m.touch(api.Swap, 2, m.me+1)
	stamp := m.load(0) + 1
	for _, stripe := range m.held {
		m.store(m.version(stripe), -1)
	}
	m.store(0, stamp)
	m.store(2, 0)
	for _, addr := range m.addrs {
		m.store(m.word(addr), m.values[addr])
	}
	for _, stripe := range m.held {
		m.store(m.version(stripe), stamp)
		m.store(m.owner(stripe), 0)
	}
}

// reach is how a code comes to words.
type reach interface {
	read(addr int) int
	write(addr, value int)
}

// interpret runs a code up to its fate, and tells its registers too.
func interpret(c api.Config, code []api.Ins, words reach) (fate int, r [4]int) {
	place := 0
	for fuel := c.Fuel; place != len(code); fuel-- {
		if fuel == 0 {
			return api.Spent, r
		}
		i := code[place]
		place++
		if !formedIn(i, len(code)) {
			return api.Broke, r
		}
		if i.Op == api.Read && r[i.B] >= c.Words || i.Op == api.Write && r[i.A] >= c.Words {
			return api.Broke, r
		}
		switch i.Op {
		case api.Stop:
			return api.Done, r
		case api.Quit:
			return api.Left, r
		case api.Set:
			r[i.A] = i.B
		case api.Add:
			r[i.A] = (r[i.B] + r[i.C]) % 65536
		case api.Sub:
			r[i.A] = (r[i.B] + 65536 - r[i.C]) % 65536
		case api.Jump:
			place = i.C
		case api.Less:
			if r[i.A] < r[i.B] {
				place = i.C
			}
		case api.Read:
			r[i.A] = words.read(r[i.B])
		case api.Write:
			words.write(r[i.A], r[i.B])
		}
	}
	return api.Done, r
}

// formedIn is the table's column "well formed if", for a code of any length.
func formedIn(i api.Ins, length int) bool {
	if i.Op < 0 || i.Op > 8 {
		return false
	}
	if isAnyOf(i.Op, api.Jump, api.Less) {
		// To formedByTable every place is 0, for there the code's length is 1.
		if i.C < 0 || i.C > length {
			return false
		}
		i.C = 0
	}
	return formedByTable(i)
}

func (m *model) job(code []api.Ins) {
	m.rank, m.held, m.addrs = 0, nil, nil
	m.load(0)
	fate, _ := interpret(m.config, code, m)
	if fate == api.Done && len(m.held) > 0 {
		m.commit()
	}
	if fate != api.Done {
		for _, stripe := range m.held {
			m.store(m.owner(stripe), 0)
		}
	}
	m.store(m.status(), 0)
	m.fates = append(m.fates, fate)
}

// modelled does all jobs of a setup in which one thread alone has some.
func modelled(s api.Setup, me int) model {
	m := model{config: s.Config, me: me, cells: make([]int, 3+2*s.Config.Stripes+s.Config.Threads)}
	m.cells = append(m.cells, s.Mem...)
	for _, job := range s.Jobs {
		m.job(job.Code)
	}
	return m
}

// busyCode is one that does something: addresses that are mostly words, and seldom a fault.
func (d *dice) busyCode(words int) []api.Ins {
	code := []api.Ins{set(0, d.roll(words)), set(1, d.roll(words)), set(2, d.roll(words))}
	length := d.roll(api.MaxCode - 2)
	for range length {
		i := api.Ins{Op: 7 + d.roll(2), A: d.roll(4), B: d.roll(3), C: d.roll(4)}
		switch d.roll(8) {
		case 0:
			i = set(d.roll(4), d.roll(words))
		case 1:
			i = set(3, d.roll(65536))
		case 2:
			i = ins(3+d.roll(4), d.roll(4), d.roll(4), d.roll(4))
		case 3:
			if d.roll(4) == 0 {
				i = ins(d.roll(10), d.roll(5), d.roll(5), d.roll(22))
			}
		}
		if i.Op == api.Read && d.roll(3) > 0 {
			i.A = 3
		}
		code = append(code, i)
	}
	if d.roll(5) == 0 {
		code[len(code)-1] = ins(api.Quit, 0, 0, 0)
	}
	return code
}

// soloSetup has jobs of one thread alone.
func (d *dice) soloSetup() (api.Setup, int) {
	c := api.Config{
		Threads: 1 + d.roll(4), Words: 1 + d.roll(8), Stripes: 1 + d.roll(8),
		Greedy: d.roll(9), Retry: d.roll(5), Cap: d.roll(9), Fuel: 1 + d.roll(40),
	}
	if d.roll(2) == 0 {
		c.Greedy = d.roll(4)
	}
	me := d.roll(c.Threads)
	s := api.Setup{Config: c}
	for range c.Words {
		s.Mem = append(s.Mem, d.roll(65536))
	}
	jobs := d.roll(9)
	for range jobs {
		s.Jobs = append(s.Jobs, api.Job{Thread: me, Code: d.busyCode(c.Words)})
	}
	return s, me
}

// mixedPicks makes so many picks of one thread, and picks of others in between that do nothing.
func (d *dice) mixedPicks(count, me int) []api.Pick {
	var picks []api.Pick
	for count > 0 {
		p := api.Pick{Thread: me, Draw: d.anyNumber()}
		if d.roll(4) == 0 {
			p.Thread = d.roll(7) - 1
		}
		picks = append(picks, p)
		if p.Thread == me {
			count--
		}
	}
	return picks
}

// spread lays the accesses of one thread where its picks are.
func spread(made []api.Access, picks []api.Pick, me int) []api.Access {
	l := make([]api.Access, len(picks))
	for i, p := range picks {
		if p.Thread == me && len(made) > 0 {
			l[i] = made[0]
			made = made[1:]
		}
	}
	return l
}

func TestOneThreadAsModelled(t *testing.T) {
	d := dice{state: 6}
	seen := [6]int{}
	tickets := 0
	for n := 0; n < 4000; n++ {
		s, me := d.soloSetup()
		m := modelled(s, me)
		picks := d.mixedPicks(len(m.made)+3, me)
		wantPlay(t, "as modelled", s, picks, text(spread(m.made, picks, me)), m.cells)
		cut := d.roll(len(picks) + 1)
		l := spread(m.made, picks[:cut], me)
		wantPlay(t, "as modelled, cut off", s, picks[:cut], text(l), cellsBehind(s, l))
		for _, fate := range m.fates {
			seen[fate]++
		}
		tickets += m.took
		if t.Failed() {
			t.Fatalf("at %v, thread %d", s, me)
		}
	}
	for fate := api.Done; fate <= api.Spent; fate++ {
		if seen[fate] < 500 {
			t.Errorf("the jobs came too seldom to fate %d: %v", fate, seen)
		}
	}
	if tickets < 500 {
		t.Errorf("too few tickets were taken: %d", tickets)
	}
}

// An attempt that fails would begin again, or leave its status at something else than 0. With one thread each job has one attempt, and the words are those of the codes run for themselves, one behind the other.
func TestNoAttemptFails(t *testing.T) {
	d := dice{state: 7}
	for n := 0; n < 3000; n++ {
		s, me := d.soloSetup()
		// An attempt makes at most 8 accesses for each instruction, and fewer for its beginning and end.
		picks := d.mixedPicks(len(s.Jobs)*(8*api.MaxFuel+80), me)
		l, e := Play(s, picks)
		cells, _ := Cells(s, picks)
		status := 3 + 2*s.Config.Stripes + me
		ends, stamps, tickets := 0, 0, 0
		for _, a := range l {
			if a.Cell == status && a.Kind == api.Store {
				ends++
				if a.Put != 0 {
					t.Fatalf("P7: %v: a status becomes %d", s, a.Put)
				}
			}
			if a.Kind == api.Swap && a.Seen != 0 {
				t.Fatalf("P7: %v: a swap sees %d", s, a.Seen)
			}
			if a.Kind == api.Store && a.Cell == 0 {
				stamps++
			}
			if a.Kind == api.Take {
				tickets++
			}
		}
		if e != api.OK || ends != len(s.Jobs) {
			t.Fatalf("P7: %v: error %d, %d jobs, %d ends", s, e, len(s.Jobs), ends)
		}
		if tickets > len(s.Jobs) || s.Config.Greedy == 0 && tickets > 0 {
			t.Fatalf("P7: %v: %d tickets", s, tickets)
		}
		words := s.Mem
		for _, job := range s.Jobs {
			_, words, _ = Alone(s.Config, words, job.Code)
		}
		if cells[0] != stamps || cells[1] != tickets || !slices.Equal(cells[status-me+s.Config.Threads:], words) {
			t.Fatalf("P7: %v: cells %v, want %d stamps, %d tickets, words %v", s, cells, stamps, tickets, words)
		}
		if slices.ContainsFunc(cells[2+s.Config.Stripes+1:status-me+s.Config.Threads], func(n int) bool { return n != 0 }) {
			t.Fatalf("P7: %v: owners or statuses are left: %v", s, cells)
		}
	}
}
