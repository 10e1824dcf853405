package opaque

import (
	"slices"
	"testing"

	"opaque/api"
)

// anySetup may be one or not, with jobs of any threads.
func (d *dice) anySetup() api.Setup {
	if d.roll(2) == 0 {
		s, _ := d.soloSetup()
		for i := range s.Jobs {
			s.Jobs[i].Thread = d.roll(s.Config.Threads)
		}
		return s
	}
	c := d.config()
	s := api.Setup{Config: c, Mem: d.mem(c.Words)}
	jobs := d.roll(10)
	for range jobs {
		s.Jobs = append(s.Jobs, api.Job{Thread: d.anyNumber(), Code: d.code()})
	}
	return s
}

func (d *dice) anyPicks() []api.Pick {
	picks := make([]api.Pick, d.roll(300))
	for i := range picks {
		picks[i] = api.Pick{Thread: d.roll(4), Draw: d.anyNumber()}
		if d.roll(9) == 0 {
			picks[i].Thread = d.anyNumber()
		}
	}
	return picks
}

// formOfAccess tells whether an access is one: its cell there, its numbers as its kind has them.
func formOfAccess(a api.Access, cells int) bool {
	if a.Kind == api.None {
		return a == api.Access{}
	}
	if a.Cell < 0 || a.Cell >= cells {
		return false
	}
	switch a.Kind {
	case api.Load:
		return a.Put == a.Seen
	case api.Take:
		return a.Cell == 1 && a.Put == a.Seen+1
	}
	return a.Kind == api.Store || a.Kind == api.Swap
}

// Whatever is handed in, also jobs of several threads: an answer that has the form of one, the same one again, and cells that the accesses account for.
func TestAnythingPlayed(t *testing.T) {
	d := dice{state: 8}
	for n := 0; n < 5000; n++ {
		s, picks := d.anySetup(), d.anyPicks()
		before := slices.Clone(picks)
		l, e := Play(s, picks)
		cells, eCells := Cells(s, picks)
		want := Check(s)
		if e != want || eCells != want {
			t.Fatalf("P5, P6: %v: errors %d and %d, want %d", s, e, eCells, want)
		}
		if want != api.OK {
			if len(l) != 0 || len(cells) != 0 {
				t.Fatalf("P1: %v: %v, %v beside the error %d", s, l, cells, want)
			}
			continue
		}
		if len(l) != len(picks) || !slices.Equal(cells, cellsBehind(s, l)) {
			t.Fatalf("P5, P6: %v %v: %d accesses, cells %v", s, picks, len(l), cells)
		}
		for i, a := range l {
			if !formOfAccess(a, len(cells)) || a.Kind != api.None && a.Seen != cellsBehind(s, l[:i])[a.Cell] {
				t.Fatalf("P5: %v %v: access %d is %v", s, picks, i, a)
			}
		}
		again, _ := Play(s, picks)
		part, _ := Play(s, picks[:len(picks)/2])
		if !slices.Equal(l, again) || !slices.Equal(l[:len(part)], part) || !slices.Equal(picks, before) {
			t.Fatalf("P2: %v %v: another answer, or picks that were written into", s, picks)
		}
	}
}

// Very many picks are no trouble, nor are lists that are nil.
func TestManyPicks(t *testing.T) {
	s := api.Setup{Config: soloConfig(1, 10), Mem: []int{5}, Jobs: []api.Job{{Code: oneMore()}}}
	l, e := Play(s, times(1<<20, 0))
	if e != api.OK || len(l) != 1<<20 || l[16].Kind != api.Store || l[17].Kind != api.None || l[1<<20-1].Kind != api.None {
		t.Errorf("P5: very many picks: %d accesses, error %d", len(l), e)
	}
	s.Jobs = nil
	wantPlay(t, "no jobs", s, times(2, 0), "- -", []int{0, 0, 0, 0, 0, 0, 5})
	wantPlay(t, "neither jobs nor picks", s, nil, "", []int{0, 0, 0, 0, 0, 0, 5})
}

// roomySetup has spare room behind all its lists, and tells what stands in it.
type roomySetup struct {
	threads int
	mem     []int
	code    []api.Ins
	jobs    []api.Job
	picks   []api.Pick
}

func newRoomySetup(threads int, code []api.Ins) roomySetup {
	r := roomySetup{threads: threads, mem: []int{5, 6, -8, -9}, code: append(slices.Clone(code), api.Ins{Op: 21}, api.Ins{Op: 22})}
	r.jobs = []api.Job{{Code: r.code[:len(code)]}, {Thread: threads - 1, Code: r.code[:len(code)]}, {Thread: 31}}
	r.picks = append(times(60, 0), api.Pick{Thread: 41})
	for i := range 60 {
		r.picks[i].Thread = i % threads
	}
	return r
}

func (r roomySetup) setup() api.Setup {
	s := api.Setup{Config: soloConfig(2, 9), Mem: r.mem[:2], Jobs: r.jobs[:2]}
	s.Config.Threads = r.threads
	return s
}

func (r roomySetup) given() []api.Pick { return r.picks[:60] }

func (r roomySetup) same(o roomySetup) bool {
	return slices.Equal(r.mem, o.mem) && slices.Equal(r.code, o.code) && slices.Equal(r.picks, o.picks) &&
		slices.EqualFunc(r.jobs, o.jobs, func(a, b api.Job) bool {
			return a.Thread == b.Thread && slices.Equal(a.Code, b.Code)
		})
}

// What is handed in stays, with its spare room, when it is played and when what came out is written into.
func TestPlayedListsAreTheirOwn(t *testing.T) {
	for n, code := range slices.Concat(codesOfEachFate(), codesOfEachFate()) {
		threads := 1 + n/len(codesOfEachFate())
		r := newRoomySetup(threads, code)
		l, e := Play(r.setup(), r.given())
		c, f := Cells(r.setup(), r.given())
		if e != api.OK || f != api.OK || len(l) != 60 || len(c) != 3+2+threads+2 {
			t.Errorf("P2: what stands behind the lists counts: %d, %d, %d, %d", e, f, len(l), len(c))
		}
		if !r.same(newRoomySetup(threads, code)) {
			t.Errorf("P2: %v: what was handed in became %v", code, r)
		}
		other, _ := Play(r.setup(), r.given())
		otherCells, _ := Cells(r.setup(), r.given())
		wantOther, wantCells := slices.Clone(other), slices.Clone(otherCells)
		l, c = l[:cap(l)], c[:cap(c)]
		for i := range l {
			l[i] = api.Access{Kind: 9, Cell: i}
		}
		for i := range c {
			c[i] = 1000 + i
		}
		if !r.same(newRoomySetup(threads, code)) || !slices.Equal(other, wantOther) || !slices.Equal(otherCells, wantCells) {
			t.Errorf("P2: %v: writing into what came out changed another list", code)
		}
		third, _ := Play(r.setup(), r.given())
		thirdCells, _ := Cells(r.setup(), r.given())
		if !slices.Equal(third, wantOther) || !slices.Equal(thirdCells, wantCells) {
			t.Errorf("P2: %v: writing into what came out changed the next answer", code)
		}
	}
}

// The calls do not hang on one another.
func TestPlayedBeforeDoesNotMatter(t *testing.T) {
	d := dice{state: 9}
	for n := 0; n < 300; n++ {
		s, me := d.soloSetup()
		picks := times(50, me)
		if n%2 == 0 {
			s = d.crowdSetup()
			picks = d.crowdPicks(s.Config.Threads)
		}
		l, _ := Play(s, picks)
		c, _ := Cells(s, picks)
		Cells(d.anySetup(), d.anyPicks())
		Play(d.anySetup(), d.anyPicks())
		Alone(s.Config, s.Mem, oneMore())
		again, _ := Play(s, picks)
		cAgain, _ := Cells(s, picks)
		if !slices.Equal(l, again) || !slices.Equal(c, cAgain) {
			t.Fatalf("P2: %v: another answer behind other calls", s)
		}
	}
}
