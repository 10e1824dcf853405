package opaque

import (
	"math"
	"slices"
	"testing"

	"opaque/api"
)

// A stage is played on pick by pick.
type stage struct {
	setup api.Setup
	picks []api.Pick
	draw  int // of picks whose draw is not to count
}

// pick tells the access of one more pick.
func (g *stage) pick(thread, draw int) api.Access {
	g.picks = append(g.picks, api.Pick{Thread: thread, Draw: draw})
	l, _ := Play(g.setup, g.picks)
	return l[len(l)-1]
}

// until picks a thread up to its next access of this kind to this cell. The draw goes with that access alone.
func (g *stage) until(t *testing.T, thread, kind, cell, draw int) {
	t.Helper()
	for range 200 {
		before := len(g.picks)
		a := g.pick(thread, draw)
		if a.Kind == kind && a.Cell == cell {
			return
		}
		g.picks[before].Draw = g.draw
	}
	t.Fatalf("P5: thread %d does not come to kind %d, cell %d: %v", thread, kind, cell, g.setup)
}

// rests counts the picks without an access up to the LOAD of the clock. In between another thread's picks must change nothing about it.
func (g *stage) rests(t *testing.T, thread int) int {
	t.Helper()
	before, _ := Cells(g.setup, g.picks)
	for n := range 20 {
		g.pick(9, n)
		a := g.pick(thread, g.draw)
		if a.Kind != api.None {
			if a.Kind != api.Load || a.Cell != 0 {
				t.Fatalf("P5: behind a rest comes %v", a)
			}
			return n
		}
		if c, _ := Cells(g.setup, g.picks); !slices.Equal(c, before) {
			t.Fatalf("P6: cells %v in a rest, %v ahead of it", c, before)
		}
	}
	t.Fatalf("P5: thread %d rests and rests: %v", thread, g.setup)
	return 0
}

// restStage: thread 1 reads the words 0 and 1 and writes word 2; thread 0 writes word 2, and then words 0 and 1 again and again.
// So thread 1 fails five times at the owner of word 2 (the fifth time with a ticket), and then once for each further job of thread 0, as it extends.
func restStage(most int) stage {
	s := api.Setup{Config: crowd(2, 3, 0, 4), Mem: []int{1, 2, 3}, Jobs: []api.Job{job(1, reads(0, 1), writes(2)), job(0, writes(2))}}
	s.Config.Cap = most
	for range 6 {
		s.Jobs = append(s.Jobs, job(0, writes(0, 1)))
	}
	return stage{setup: s, draw: 3}
}

const (
	restStatus0 = 3 + 2*3
	restStatus1 = restStatus0 + 1
	restWord0   = restStatus0 + 2
)

// wantRest is the remainder of the draw by 1 more than the failures, of which at most Cap count.
func wantRest(most, failures, draw int) int {
	if draw < 0 {
		return 0
	}
	return draw % (1 + min(failures, most))
}

func TestRestsByDraw(t *testing.T) {
	draws := []int{5, 1, 8, 7, math.MaxInt, 719, -1, 6, 17, math.MinInt, 4, 0, 2, 26, -5, 3}
	for most := 0; most <= api.MaxCap; most++ {
		for first := range draws {
			g := restStage(most)
			draw := func(failures int) int { return draws[(first+failures)%len(draws)] }
			g.until(t, 0, api.Load, 3+2, 0)
			failures := 0
			for failures < 5 {
				failures++
				g.until(t, 1, api.Store, restStatus1, draw(failures))
				if n := g.rests(t, 1); n != wantRest(most, failures, draw(failures)) {
					t.Fatalf("P5: Cap %d, failure %d, draw %d: a rest of %d", most, failures, draw(failures), n)
				}
			}
			g.until(t, 0, api.Store, restStatus0, 0)
			for failures < 11 {
				failures++
				g.until(t, 1, api.Load, restWord0, 0)
				g.pick(1, g.draw)
				g.until(t, 0, api.Store, restStatus0, 0)
				g.until(t, 1, api.Store, restStatus1, draw(failures))
				if n := g.rests(t, 1); n != wantRest(most, failures, draw(failures)) {
					t.Fatalf("P5: Cap %d, failure %d, draw %d: a rest of %d", most, failures, draw(failures), n)
				}
			}
			g.until(t, 1, api.Store, restStatus1, 0)
			cells, _ := Cells(g.setup, g.picks)
			if want := []int{8, 1, 0, 7, 7, 8, 0, 0, 0, 0, 0, 70, 71, 72}; !slices.Equal(cells, want) {
				t.Fatalf("P6: Cap %d: cells %v behind the rests, want %v", most, cells, want)
			}
		}
	}
}

// Example 9, and what stands beside it.
func TestRestExample(t *testing.T) {
	for _, want := range [][4]int{ // Cap, failures, draw, picks
		{2, 1, 5, 1}, {2, 2, 5, 2}, {2, 3, 5, 2}, {2, 1, -1, 0}, {2, 3, -1, 0},
		{0, 1, 5, 0}, {0, 4, 7, 0}, {1, 4, 7, 1}, {8, 4, 4, 4}, {8, 4, 5, 0}, {8, 4, 9, 4}, {3, 4, 7, 3}, {4, 4, 7, 2},
		{8, 1, math.MaxInt, 1}, {8, 1, math.MinInt, 0}, {8, 2, math.MinInt + 1, 0}, {8, 3, 0, 0},
	} {
		g := restStage(want[0])
		g.until(t, 0, api.Load, 3+2, 0)
		for range want[1] - 1 {
			g.until(t, 1, api.Store, restStatus1, 0)
		}
		g.until(t, 1, api.Store, restStatus1, want[2])
		if n := g.rests(t, 1); n != want[3] {
			t.Errorf("P5: Cap %d, failure %d, draw %d: a rest of %d, want %d", want[0], want[1], want[2], n, want[3])
		}
	}
}
