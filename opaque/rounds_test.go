package opaque

import (
	"slices"
	"testing"

	"opaque/api"
)

// fightSetup has as many jobs as there may be, long codes that read and write the same few words in all orders, and little that keeps the threads apart.
func (d *dice) fightSetup() api.Setup {
	words := 1 + d.roll(3)
	s := api.Setup{Config: api.Config{Threads: 2 + d.roll(3), Words: words, Stripes: 1 + d.roll(words), Greedy: d.roll(3), Retry: d.roll(5), Cap: d.roll(9), Fuel: api.MaxFuel}}
	s.Mem = make([]int, words)
	for n := range api.MaxJobs {
		s.Jobs = append(s.Jobs, api.Job{Thread: n % s.Config.Threads, Code: d.counting(words)})
	}
	return s
}

// counting adds 1 to some words, one behind the other, in any order: what it writes shows whether anything was lost.
func (d *dice) counting(words int) []api.Ins {
	code := []api.Ins{set(2, 1)}
	count := 1 + d.roll(4)
	for range count {
		code = append(code, set(0, d.roll(words)), read(1, 0), ins(api.Add, 1, 1, 2), write(0, 1))
	}
	return code
}

// round picks every thread at least once, in any order, and those that are favoured more often.
func (d *dice) round(threads int, favoured []int) []api.Pick {
	var picks []api.Pick
	first := d.roll(threads)
	for n := range threads {
		thread := (first + n) % threads
		times := 1
		if favoured[thread] > 0 {
			times += d.roll(favoured[thread])
		}
		for range times {
			picks = append(picks, api.Pick{Thread: thread, Draw: d.roll(40) - 4})
		}
	}
	if d.roll(2) == 0 {
		picks[0], picks[len(picks)-1] = picks[len(picks)-1], picks[0]
	}
	return picks
}

// rounds makes so many of them. Whom it favours changes from time to time.
func (d *dice) rounds(threads, count int) []api.Pick {
	var picks []api.Pick
	favoured := make([]int, threads)
	for n := range count {
		if n%50 == 0 {
			for i := range favoured {
				favoured[i] = d.roll(2) * d.roll(30)
			}
		}
		picks = append(picks, d.round(threads, favoured)...)
	}
	return picks
}

func unfinished(r []api.Result) int {
	n := 0
	for _, result := range r {
		if result.Fate == api.Open {
			n++
		}
	}
	return n
}

// The rounds here are far fewer than MaxRounds, and should do for these setups all the same.
func TestRoundsFinishAllJobs(t *testing.T) {
	d := dice{state: 15}
	failed := 0
	for n := range 400 {
		s := d.fightSetup()
		if n%4 == 0 {
			s = d.crowdSetup()
		}
		before := d.crowdPicks(s.Config.Threads)
		picks := slices.Concat(before, d.rounds(s.Config.Threads, 3000))
		r, e := Jobs(s, picks)
		if e != api.OK || len(r) != len(s.Jobs) || unfinished(r) > 0 {
			t.Fatalf("P11: %v, behind %v: error %d, %v", s, before, e, r)
		}
		h, _ := History(s, picks)
		if i := Judge(s.Mem, h); i != -1 {
			t.Fatalf("P10: %v: attempt %d is not sound: %s", s, i, toldAll(h))
		}
		for _, a := range h {
			if a.Fate == api.Failed {
				failed++
			}
		}
		if n%4 != 0 {
			wantCounted(t, s, picks)
		}
	}
	if failed < 2000 {
		t.Errorf("only %d attempts failed", failed)
	}
}

// wantCounted looks whether each word has gone up by as much as the jobs added to it.
func wantCounted(t *testing.T, s api.Setup, picks []api.Pick) {
	t.Helper()
	want := s.Mem
	for _, job := range s.Jobs {
		_, want, _ = Alone(s.Config, want, job.Code)
	}
	c, _ := Cells(s, picks)
	if words := c[len(c)-len(want):]; !slices.Equal(words, want) {
		t.Fatalf("P10: %v: words %v, want %v", s, words, want)
	}
}

// MaxRounds rounds, behind picks that leave the threads in the midst of something.
func TestMaxRounds(t *testing.T) {
	d := dice{state: 16}
	for threads := 2; threads <= api.MaxThreads; threads++ {
		rounds := make([]api.Pick, 0, threads*api.MaxRounds)
		for n := range threads * api.MaxRounds {
			rounds = append(rounds, api.Pick{Thread: n % threads, Draw: n % 7})
		}
		for range 5 {
			s := d.fightSetup()
			s.Config.Threads = threads
			for i := range s.Jobs {
				s.Jobs[i].Thread = i % threads
			}
			before := d.crowdPicks(threads)
			r, e := Jobs(s, slices.Concat(before, rounds))
			if e != api.OK || len(r) != len(s.Jobs) || unfinished(r) > 0 {
				t.Fatalf("P11: %v, behind %v: error %d, %v", s, before, e, r)
			}
		}
	}
}

// Threads that go in step with one another, each with its stripes in another order, are where standing still would begin.
func TestRoundsInStep(t *testing.T) {
	for threads := 1; threads <= api.MaxThreads; threads++ {
		for greedy := 0; greedy <= 4; greedy++ {
			for retry := 0; retry <= api.MaxRetry; retry++ {
				s := api.Setup{Config: crowd(threads, 4, greedy, retry), Mem: []int{1, 2, 3, 4}}
				for n := range api.MaxJobs {
					s.Jobs = append(s.Jobs, job(n%threads, writes(n%4, (n+1)%4, (n+2)%4, (n+3)%4)))
				}
				for draw := range 3 {
					var picks []api.Pick
					for n := range 3000 * threads {
						picks = append(picks, api.Pick{Thread: n % threads, Draw: draw})
					}
					r, e := Jobs(s, picks)
					if e != api.OK || len(r) != len(s.Jobs) || unfinished(r) > 0 {
						t.Fatalf("P11: %d threads, Greedy %d, Retry %d, draw %d: error %d, %v", threads, greedy, retry, draw, e, r)
					}
					h, _ := History(s, picks)
					if i := Judge(s.Mem, h); i != -1 {
						t.Fatalf("P10: %d threads, Greedy %d, Retry %d, draw %d: attempt %d is not sound", threads, greedy, retry, draw, i)
					}
				}
			}
		}
	}
}

// Whatever is seen in the midst is sound too, behind every one of the picks, and what has ended stays as it was told.
func TestSoundInTheMidst(t *testing.T) {
	d := dice{state: 17}
	for range 60 {
		s := d.fightSetup()
		picks := d.crowdPicks(s.Config.Threads)
		var last []api.Attempt
		for n := range picks {
			h, _ := History(s, picks[:n])
			if i := Judge(s.Mem, h); i != -1 {
				t.Fatalf("P10: %v, %v: attempt %d is not sound: %s", s, picks[:n], i, toldAll(h))
			}
			for i, a := range last {
				if i >= len(h) || a.End > 0 && told(a) != told(h[i]) || a.Start != h[i].Start || len(a.Notes) > len(h[i].Notes) {
					t.Fatalf("P9: %v, %v: attempt %d was %s: %s", s, picks[:n], i, told(a), toldAll(h))
				}
			}
			last = h
		}
	}
}
