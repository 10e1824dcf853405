package opaque

import (
	"math"
	"slices"
	"testing"

	"opaque/api"
)

func TestCameErrors(t *testing.T) {
	for n := 0; n < setsOfErrors; n++ {
		s, want := faultySetup(n)
		r, e := Jobs(s, times(3, 1))
		if e != want || (e != api.OK && len(r) != 0) || (e == api.OK && len(r) != 3) {
			t.Errorf("P1, P8: errors %05b: Jobs answers %v, %d, want %d", n, r, e, want)
		}
		h, e := History(s, times(3, 1))
		if e != want || (e != api.OK && len(h) != 0) || (e == api.OK && len(h) != 1) {
			t.Errorf("P1, P9: errors %05b: History answers %v, %d, want %d", n, h, e, want)
		}
	}
}

// Whatever is handed in: the error of Check, or what the model tells.
func TestAnythingCame(t *testing.T) {
	d := dice{state: 18}
	good := 0
	for range 4000 {
		s, picks := d.anySetup(), d.anyPicks()
		before := slices.Clone(picks)
		r, e := Jobs(s, picks)
		h, eHistory := History(s, picks)
		want := Check(s)
		if e != want || eHistory != want {
			t.Fatalf("P8, P9: %v: errors %d and %d, want %d", s, e, eHistory, want)
		}
		if want != api.OK {
			if len(r) != 0 || len(h) != 0 {
				t.Fatalf("P1: %v: %v, %v beside the error %d", s, r, h, want)
			}
			continue
		}
		good++
		g := newThrong(s)
		for _, p := range picks {
			g.pick(p)
		}
		wantCame(t, "anything", s, picks, g.results, g.history())
		g.end()
		if t.Failed() || !slices.Equal(picks, before) {
			t.Fatalf("at %v %v", s, before)
		}
	}
	if good < 1000 {
		t.Errorf("only %d setups were some", good)
	}
}

// Far picks, and very many.
func TestCameManyPicks(t *testing.T) {
	s := api.Setup{Config: soloConfig(1, 10), Mem: []int{5}, Jobs: []api.Job{{Code: oneMore()}}}
	picks := slices.Concat(times(1, math.MaxInt), times(1, math.MinInt), times(1, 1<<32), times(1<<20, 0))
	picks[7].Draw = math.MinInt
	picks[8].Draw = math.MaxInt
	wantTold(t, "very many picks", s, picks, []api.Result{result(api.Done, 0, 6, 1)}, "0.0 4-20 v0 s1 f1 r0=5 w0=6")
}

// overwrite writes into all lists of a history, and behind them.
func overwrite(h []api.Attempt) {
	for i := range h {
		notes := h[i].Notes[:cap(h[i].Notes)]
		for k := range notes {
			notes[k] = api.Note{Op: 90, Addr: i, Value: k}
		}
	}
	h = h[:cap(h)]
	for i := range h {
		h[i] = api.Attempt{Thread: 91, Notes: []api.Note{{Op: 92}}}
	}
}

// What is handed in stays, with its spare room, when it is played and when what came out is written into.
func TestCameListsAreTheirOwn(t *testing.T) {
	for n, code := range slices.Concat(codesOfEachFate(), codesOfEachFate()) {
		threads := 1 + n/len(codesOfEachFate())
		given := newRoomySetup(threads, code)
		r, e := Jobs(given.setup(), given.given())
		h, f := History(given.setup(), given.given())
		if e != api.OK || f != api.OK || len(r) != 2 || len(h) < 2 {
			t.Errorf("P2: what stands behind the lists counts: %d, %d, %v, %s", e, f, r, toldAll(h))
		}
		other, _ := Jobs(given.setup(), given.given())
		otherHistory, _ := History(given.setup(), given.given())
		wantOther, wantHistory := slices.Clone(other), toldAll(otherHistory)
		r = r[:cap(r)]
		for i := range r {
			r[i] = api.Result{Fate: 99}
		}
		overwrite(h)
		if !given.same(newRoomySetup(threads, code)) {
			t.Errorf("P2: %v: what was handed in became %v", code, given)
		}
		if !slices.Equal(other, wantOther) || toldAll(otherHistory) != wantHistory {
			t.Errorf("P2: %v: writing into what came out changed another list", code)
		}
		third, _ := Jobs(given.setup(), given.given())
		thirdHistory, _ := History(given.setup(), given.given())
		if !slices.Equal(third, wantOther) || toldAll(thirdHistory) != wantHistory {
			t.Errorf("P2: %v: writing into what came out changed the next answer", code)
		}
	}
}

// The lists of notes in one history do not share room with one another either.
func TestNotesAreTheirOwn(t *testing.T) {
	d := dice{state: 19}
	for range 200 {
		s := d.crowdSetup()
		picks := d.crowdPicks(s.Config.Threads)
		h, _ := History(s, picks)
		for i := range h {
			before := copyHistory(h)
			overwrite(h[i : i+1 : i+1])
			for j := range h {
				if j != i && told(h[j]) != told(before[j]) {
					t.Fatalf("P2: %v: attempt %d became %s as attempt %d was written into", s, j, told(h[j]), i)
				}
			}
			h, _ = History(s, picks)
		}
	}
}

// What Judge is handed stays, with its spare room.
func TestJudgeWritesIntoNothing(t *testing.T) {
	room := func() ([]int, []api.Attempt) {
		notes := []api.Note{noteRead(0, 5), noteWrite(0, 6), noteRead(0, 6), {Op: 71}, {Op: 72}}
		return []int{5, 6, -8, -9}, []api.Attempt{
			{Stamp: 2, Notes: notes[:3]}, {Stamp: 1, Valid: 1, Notes: slices.Clone(notes)[:1]},
			{Thread: 73, Notes: []api.Note{{Op: 74}}}, {Thread: 75},
		}
	}
	mem, h := room()
	wantMem, want := room()
	if n := Judge(mem[:2], h[:2]); n != -1 {
		t.Errorf("P2, P12: what stands behind the lists counts: %d", n)
	}
	for i := range h {
		h[i].Notes = h[i].Notes[:cap(h[i].Notes)]
		want[i].Notes = want[i].Notes[:cap(want[i].Notes)]
	}
	if !slices.Equal(mem, wantMem) || toldAll(h) != toldAll(want) {
		t.Errorf("P2: what was handed in became %v, %s", mem, toldAll(h))
	}
}

// The calls do not hang on one another.
func TestCameBeforeDoesNotMatter(t *testing.T) {
	d := dice{state: 20}
	for range 300 {
		s := d.crowdSetup()
		picks := d.crowdPicks(s.Config.Threads)
		r, _ := Jobs(s, picks)
		h, _ := History(s, picks)
		History(d.anySetup(), d.anyPicks())
		Jobs(d.anySetup(), d.anyPicks())
		Judge(d.anyHistory())
		Play(s, picks)
		again, _ := Jobs(s, picks)
		hAgain, _ := History(s, picks)
		if !slices.Equal(r, again) || toldAll(h) != toldAll(hAgain) {
			t.Fatalf("P2: %v: another answer behind other calls", s)
		}
	}
}
