package opaque

import (
	"fmt"
	"slices"
	"strings"
	"testing"

	"opaque/api"
)

// told writes an attempt as thread.job start-end v(valid) s(stamp) f(fate) and its notes: r0=5 is a Read of word 0, w0=6 a Write.
func told(a api.Attempt) string {
	line := fmt.Sprintf("%d.%d %d-%d v%d s%d f%d", a.Thread, a.Job, a.Start, a.End, a.Valid, a.Stamp, a.Fate)
	for _, n := range a.Notes {
		op := fmt.Sprint(" ", n.Op, "?")
		switch n.Op {
		case api.Read:
			op = " r"
		case api.Write:
			op = " w"
		}
		line += fmt.Sprintf("%s%d=%d", op, n.Addr, n.Value)
	}
	return line
}

func toldAll(h []api.Attempt) string {
	var lines []string
	for _, a := range h {
		lines = append(lines, told(a))
	}
	return strings.Join(lines, "; ")
}

// wantCame compares what has come of the jobs, and all attempts, which must be sound.
func wantCame(t *testing.T, what string, s api.Setup, picks []api.Pick, results []api.Result, history []api.Attempt) {
	t.Helper()
	wantTold(t, what, s, picks, results, toldAll(history))
}

func wantTold(t *testing.T, what string, s api.Setup, picks []api.Pick, results []api.Result, history string) {
	t.Helper()
	r, e := Jobs(s, picks)
	if e != api.OK || !slices.Equal(r, results) {
		t.Errorf("P8: %s: error %d, %v, want %v", what, e, r, results)
	}
	h, e := History(s, picks)
	if e != api.OK || toldAll(h) != history {
		t.Errorf("P9: %s: error %d\n%s, want\n%s", what, e, toldAll(h), history)
	}
	if n := Judge(s.Mem, h); n != -1 {
		t.Errorf("P10, P12: %s: attempt %d is not sound: %s", what, n, toldAll(h))
	}
	if n := judgedPlainly(s.Mem, h); n != -1 {
		t.Errorf("P10: %s: attempt %d is not sound, by the words: %s", what, n, toldAll(h))
	}
}

func result(fate int, regs ...int) api.Result {
	r := api.Result{Fate: fate}
	copy(r.Regs[:], regs)
	return r
}

func TestCameExamples(t *testing.T) {
	s := api.Setup{Config: soloConfig(1, 10), Mem: []int{5}, Jobs: []api.Job{{Code: oneMore()}}}
	for n, want := range []string{
		"",
		"0.0 1-0 v0 s0 f0", "0.0 1-0 v0 s0 f0", "0.0 1-0 v0 s0 f0",
		"0.0 1-0 v0 s0 f0 r0=5", "0.0 1-0 v0 s0 f0 r0=5", "0.0 1-0 v0 s0 f0 r0=5",
		"0.0 1-0 v0 s0 f0 r0=5 w0=6", "0.0 1-0 v0 s0 f0 r0=5 w0=6", "0.0 1-0 v0 s0 f0 r0=5 w0=6", "0.0 1-0 v0 s0 f0 r0=5 w0=6", "0.0 1-0 v0 s0 f0 r0=5 w0=6",
		"0.0 1-0 v0 s1 f0 r0=5 w0=6", "0.0 1-0 v0 s1 f0 r0=5 w0=6", "0.0 1-0 v0 s1 f0 r0=5 w0=6", "0.0 1-0 v0 s1 f0 r0=5 w0=6", "0.0 1-0 v0 s1 f0 r0=5 w0=6",
		"0.0 1-17 v0 s1 f1 r0=5 w0=6", "0.0 1-17 v0 s1 f1 r0=5 w0=6",
	} {
		results := []api.Result{{}}
		if n >= 17 {
			results[0] = result(api.Done, 0, 6, 1, 0)
		}
		wantTold(t, fmt.Sprintf("examples 1 and 2, %d picks", n), s, times(n, 0), results, want)
	}
	code := []api.Ins{set(1, 7), write(0, 1)}
	s = api.Setup{Config: api.Config{Threads: 2, Words: 1, Stripes: 1, Fuel: 10}, Mem: []int{5}, Jobs: []api.Job{{Thread: 0, Code: code}, {Thread: 1, Code: code}}}
	picks := slices.Concat(times(3, 0), times(11, 1), times(6, 0))
	first, rest := "0.0 1-19 v0 s0 f5 w0=7", "; 1.1 4-8 v0 s0 f5; 1.1 9-0 v0 s0 f0"
	wantTold(t, "example 8", s, picks, []api.Result{{}, {}}, first+rest)
	wantTold(t, "example 8, a pick less", s, picks[:19], []api.Result{{}, {}}, first+rest)
	wantTold(t, "example 8, two picks less", s, picks[:18], []api.Result{{}, {}}, "0.0 1-0 v0 s0 f0 w0=7"+rest)
	wantTold(t, "example 8, ahead of the note", s, picks[:14], []api.Result{{}, {}}, "0.0 1-0 v0 s0 f0"+rest)
}

// A tale is what comes of a script behind so many of its picks, or behind all (0).
type tale struct {
	act
	behind  int
	results []api.Result
	history string
}

func (a tale) tell(t *testing.T) {
	t.Helper()
	picks, want := a.played()
	what := a.what
	if a.behind > 0 {
		picks, want = picks[:a.behind], want[:a.behind]
		what = fmt.Sprintf("%s, %d picks", a.what, a.behind)
	}
	l, e := Play(a.setup(), picks)
	if e != api.OK || text(l) != text(want) {
		t.Errorf("P5: %s: error %d\n%s, want\n%s", what, e, text(l), text(want))
	}
	wantTold(t, what, a.setup(), picks, a.results, a.history)
}

// What each fate leaves behind: its registers, and the notes of what was undone too.
func TestResultsOfEachFate(t *testing.T) {
	c := config(2, 2, 0, 8)
	hold := []api.Ins{set(0, 1), set(1, 9), write(0, 1), read(2, 0), read(3, 3)}
	notes := " w1=9 r1=9 r0=3"
	for _, f := range []struct {
		what string
		code []api.Ins
		want api.Result
		note string
		end  int
	}{
		{"no code", nil, result(api.Done), "", 2},
		{"Stop", []api.Ins{set(3, 65535), ins(api.Stop, 0, 0, 0), set(3, 1)}, result(api.Done, 0, 0, 0, 65535), "", 2},
		{"Quit", append(slices.Clone(hold), ins(api.Quit, 0, 0, 0)), result(api.Left, 1, 9, 9, 3), notes, 9},
		{"a fault", append(slices.Clone(hold), ins(9, 0, 0, 0)), result(api.Broke, 1, 9, 9, 3), notes, 9},
		{"a Read of no word", append(slices.Clone(hold), read(0, 1)), result(api.Broke, 1, 9, 9, 3), notes, 9},
		{"a Write to no word", append(slices.Clone(hold), write(1, 0)), result(api.Broke, 1, 9, 9, 3), notes, 9},
		{"no fuel", append(slices.Clone(hold), set(3, 7), ins(api.Jump, 0, 0, 6)), result(api.Spent, 1, 9, 9, 7), notes, 9},
		{"to its end", hold, result(api.Done, 1, 9, 9, 3), notes, 17},
	} {
		s := api.Setup{Config: c, Mem: []int{3, 4}, Jobs: []api.Job{{Code: f.code}}}
		stamp := 0
		if f.end == 17 {
			stamp = 1
		}
		want := fmt.Sprintf("0.0 1-%d v0 s%d f%d%s", f.end, stamp, f.want.Fate, f.note)
		wantTold(t, f.what, s, times(f.end, 0), []api.Result{f.want}, want)
		wantTold(t, f.what+", picked on", s, times(f.end+5, 0), []api.Result{f.want}, want)
		open := fmt.Sprintf("0.0 1-0 v0 s%d f0%s", stamp, f.note)
		wantTold(t, f.what+", a pick less", s, times(f.end-1, 0), []api.Result{{}}, open)
	}
}

// The notes of words that are read and written more than once, of the write log and of stripes that are held.
func TestNotes(t *testing.T) {
	c := config(3, 2, 1, 20)
	s := api.Setup{Config: c, Mem: []int{10, 11, 12}, Jobs: []api.Job{{Code: []api.Ins{
		read(3, 0), read(3, 0), // word 0 twice
		write(0, 1), read(3, 0), // in the write log
		set(1, 8), write(0, 1), write(0, 1), read(3, 0), // again, and once more
		set(2, 2), read(3, 2), // of a stripe that is held
		write(2, 3),
	}}}}
	wantTold(t, "notes", s, times(50, 0), []api.Result{result(api.Done, 0, 8, 2, 12)}, "0.0 1-24 v0 s1 f1 r0=10 r0=10 w0=0 r0=0 w0=8 w0=8 r0=8 r2=12 w2=12")
	// The first Write is in the log ahead of the ticket; what follows it without an access comes behind that.
	wantTold(t, "notes, the stripe got", s, times(10, 0), []api.Result{{}}, "0.0 1-0 v0 s0 f0 r0=10 r0=10 w0=0")
	wantTold(t, "notes, the ticket taken", s, times(11, 0), []api.Result{{}}, "0.0 1-0 v0 s0 f0 r0=10 r0=10 w0=0")
	wantTold(t, "notes, the rank shown", s, times(12, 0), []api.Result{{}}, "0.0 1-0 v0 s0 f0 r0=10 r0=10 w0=0 r0=0 w0=8 w0=8 r0=8")
	wantTold(t, "notes, the held word read", s, times(13, 0), []api.Result{{}}, "0.0 1-0 v0 s0 f0 r0=10 r0=10 w0=0 r0=0 w0=8 w0=8 r0=8 r2=12 w2=12")
}

// Extensions count from their last access on, also with nothing read; what is seen in the gate moves no valid time.
func TestValidTimes(t *testing.T) {
	one := [4]int{1, 0, 11, 71}
	done := result(api.Done, 0, 1, 71)
	nothingRead := act{"extended with nothing read", crowd(2, 2, 0, 4), []api.Job{job(0, writes(1)), job(1, writes(1))},
		"0> 1:c:0:0" + whole(1, 0, one) + "0> 1:t0:0:0 3:o1:0:1 1:v1:1:1 1:c:1:1 1:t0:0:0 3:g:0:1 1:c:1:1 2:v1:1:-1 2:c:1:2", nil}
	got := act{"extended as a stripe is got", crowd(2, 3, 0, 4), []api.Job{job(0, reads(0, 2), writes(1)), job(1, writes(1))},
		"0> 1:c:0:0" + look(0, 0, 10) + look(2, 0, 12) + whole(1, 0, one) + "0> 1:t0:0:0 3:o1:0:1 1:v1:1:1 1:c:1:1 1:v0:0:0 1:v2:0:0", nil}
	gate := act{"the clock has gone on in the gate", crowd(2, 2, 0, 4), []api.Job{job(0, reads(0), writes(0)), job(1, writes(1))},
		"0> 1:c:0:0" + look(0, 0, 10) + "1:t0:0:0 3:o0:0:1 1:v0:0:0" + whole(1, 0, one) + "0> 1:t0:0:0 3:g:0:1 1:c:1:1 2:v0:0:-1 2:c:1:2", nil}
	vain := act{"extended in vain", crowd(2, 2, 0, 4), []api.Job{job(0, reads(1), writes(1)), job(1, writes(1))},
		"0> 1:c:0:0" + look(1, 0, 11) + whole(1, 0, one) + "0> 1:t0:0:0 3:o1:0:1 1:v1:1:1 1:c:1:1 1:v1:1:1 2:o1:1:0 2:t0:0:0 1:c:1:1", nil}
	results := []api.Result{{}, done}
	for _, a := range []tale{
		{nothingRead, 18, results, "0.0 1-0 v0 s0 f0; 1.1 2-15 v0 s1 f1 w1=71"},
		{nothingRead, 19, results, "0.0 1-0 v1 s0 f0 w1=71; 1.1 2-15 v0 s1 f1 w1=71"},
		{nothingRead, 0, results, "0.0 1-0 v1 s2 f0 w1=71; 1.1 2-15 v0 s1 f1 w1=71"},
		{got, 25, results, "0.0 1-0 v0 s0 f0 r0=10 r2=12; 1.1 8-21 v0 s1 f1 w1=71"},
		{got, 26, results, "0.0 1-0 v0 s0 f0 r0=10 r2=12; 1.1 8-21 v0 s1 f1 w1=71"},
		{got, 27, results, "0.0 1-0 v1 s0 f0 r0=10 r2=12 w1=71; 1.1 8-21 v0 s1 f1 w1=71"},
		{gate, 24, results, "0.0 1-0 v0 s0 f0 r0=10 w0=70; 1.1 8-21 v0 s1 f1 w1=71"},
		{gate, 0, results, "0.0 1-0 v0 s2 f0 r0=10 w0=70; 1.1 8-21 v0 s1 f1 w1=71"},
		{vain, 24, results, "0.0 1-0 v0 s0 f0 r1=11; 1.1 5-18 v0 s1 f1 w1=71"},
		{vain, 0, results, "0.0 1-25 v0 s0 f5 r1=11; 1.1 5-18 v0 s1 f1 w1=71; 0.0 26-0 v1 s0 f0"},
	} {
		a.tell(t)
	}
}

// A Write came into the log, and then its rank came late; rests and waits come ahead of the next Start; the next job of a thread has one of its own.
func TestAttemptsBehindFailures(t *testing.T) {
	two := []api.Job{job(0, writes(0)), job(1, writes(0))}
	late := act{"marked as its rank comes", crowd(2, 1, 1, 0), two,
		"0> 1:c:0:0 1:t0:0:0 3:o0:0:1 1:v0:0:0 4:k:0:1 " +
			"1> 1:c:0:0 1:t1:0:0 3:o0:1:1 4:k:1:2 2:t1:0:16 1:c:0:0 1:t1:16:16 3:o0:1:1 1:t0:0:0 3:t0:0:2 " +
			"0> 3:t0:2:2 2:o0:1:0 2:t0:2:8@5 1:t1:16:16 1:c:0:0", nil}
	rests := act{"rests", crowd(2, 1, 0, 1), []api.Job{job(1, writes(0)), job(0, writes(0)), job(0), job(1)},
		"0> 1:c:0:0 1:t0:0:0 3:o0:0:1 1> 1:c:0:0 1:t1:0:0 3:o0:1:1 2:t1:0:0@1 - 1:c:0:0 1:t1:0:0 3:o0:1:1 4:k:0:1 2:t1:0:8@2 - - " +
			"0> 1:v0:0:0 1:t0:0:0 3:g:0:1 1:c:0:0 2:v0:0:-1 2:c:0:1 2:g:1:0 2:w0:10:70 2:v0:-1:1 2:o0:1:0 2:t0:0:0 1:c:1:1 2:t0:0:0 - " +
			"1> 1:c:1:1", nil}
	for _, a := range []tale{
		{late, 16, []api.Result{{}, {}}, "0.0 1-0 v0 s0 f0 w0=70; 1.1 6-10 v0 s0 f5; 1.1 11-0 v0 s0 f0"},
		{late, 18, []api.Result{{}, {}}, "0.0 1-18 v0 s0 f5 w0=70; 1.1 6-10 v0 s0 f5; 1.1 11-0 v0 s0 f0"},
		{late, 19, []api.Result{{}, {}}, "0.0 1-18 v0 s0 f5 w0=70; 1.1 6-10 v0 s0 f5; 1.1 11-0 v0 s0 f0"},
		{late, 0, []api.Result{{}, {}}, "0.0 1-18 v0 s0 f5 w0=70; 1.1 6-10 v0 s0 f5; 1.1 11-0 v0 s0 f0; 0.0 20-0 v0 s0 f0"},
		{rests, 8, make([]api.Result, 4), "0.1 1-0 v0 s0 f0; 1.0 4-7 v0 s0 f5"},
		{rests, 15, make([]api.Result, 4), "0.1 1-0 v0 s0 f0; 1.0 4-7 v0 s0 f5; 1.0 9-13 v0 s0 f5"},
		{rests, 26, []api.Result{{}, result(api.Done, 0, 0, 70), {}, {}}, "0.1 1-26 v0 s1 f1 w0=70; 1.0 4-7 v0 s0 f5; 1.0 9-13 v0 s0 f5"},
		{rests, 0, []api.Result{{}, result(api.Done, 0, 0, 70), result(api.Done), {}}, "0.1 1-26 v0 s1 f1 w0=70; 1.0 4-7 v0 s0 f5; 1.0 9-13 v0 s0 f5; 0.2 27-28 v1 s0 f1; 1.0 30-0 v1 s0 f0"},
	} {
		a.tell(t)
	}
}

// Picks that make no access count in the numbers of picks, and do nothing else.
func TestPicksWithoutAccessCount(t *testing.T) {
	s := api.Setup{Config: soloConfig(1, 10), Mem: []int{5}, Jobs: []api.Job{{Thread: 1, Code: oneMore()}, {Thread: 1}}}
	s.Config.Threads = 2
	picks := slices.Concat(times(3, 0), times(2, -1), times(16, 1), times(4, 2), times(1, 0), times(3, 1), times(9, 1))
	wantTold(t, "picks without an access", s, picks, []api.Result{result(api.Done, 0, 6, 1), result(api.Done)}, "1.0 6-27 v0 s1 f1 r0=5 w0=6; 1.1 28-29 v1 s0 f1")
	wantTold(t, "no attempt has begun", s, picks[:5], make([]api.Result, 2), "")
	wantTold(t, "no picks", s, nil, make([]api.Result, 2), "")
	s.Jobs = nil
	wantTold(t, "no jobs", s, picks, nil, "")
}

// In a setup with jobs of one thread alone each job has one attempt, which does not fail.
func TestOneThreadHasOneAttemptEach(t *testing.T) {
	d := dice{state: 11}
	for range 1500 {
		s, me := d.soloSetup()
		picks := d.mixedPicks(len(s.Jobs)*(8*api.MaxFuel+80), me)
		r, e := Jobs(s, picks)
		h, eHistory := History(s, picks)
		if e != api.OK || eHistory != api.OK || len(r) != len(s.Jobs) || len(h) != len(s.Jobs) {
			t.Fatalf("P7: %v: %v, %d, %v, %d", s, r, e, h, eHistory)
		}
		words := s.Mem
		for i, a := range h {
			var want api.Result
			want, words, _ = Alone(s.Config, words, s.Jobs[i].Code)
			if r[i] != want || a.Fate != want.Fate || a.Job != i || a.Thread != me || a.End <= a.Start {
				t.Fatalf("P7, P8: %v: job %d: %v, %s, want %v", s, i, r[i], told(a), want)
			}
		}
	}
}

// Starts and Ends are those of the accesses, as Play tells them.
func TestHistoryFitsAccesses(t *testing.T) {
	d := dice{state: 12}
	for range 1500 {
		s := d.crowdSetup()
		picks := d.crowdPicks(s.Config.Threads)
		l, _ := Play(s, picks)
		h, _ := History(s, picks)
		status := func(a api.Attempt) int { return 3 + 2*s.Config.Stripes + a.Thread }
		ends, stamps := 0, 0
		for i, a := range h {
			start := l[a.Start-1]
			if i > 0 && a.Start <= h[i-1].Start || picks[a.Start-1].Thread != a.Thread || start.Kind != api.Load || start.Cell != 0 || start.Seen > a.Valid || s.Jobs[a.Job].Thread != a.Thread {
				t.Fatalf("P9: %v %v: attempt %d: %s begins with %v", s, picks, i, told(a), start)
			}
			if (a.End == 0) != (a.Fate == api.Open) {
				t.Fatalf("P9: %v %v: attempt %d: %s", s, picks, i, told(a))
			}
			if a.End > 0 {
				end := l[a.End-1]
				if picks[a.End-1].Thread != a.Thread || end.Kind != api.Store || end.Cell != status(a) {
					t.Fatalf("P9: %v %v: attempt %d: %s ends with %v", s, picks, i, told(a), end)
				}
				ends++
			}
			if a.Stamp > 0 {
				stamps++
			}
		}
		for _, a := range l {
			if a.Kind == api.Store && a.Cell >= 3+2*s.Config.Stripes && a.Cell < 3+2*s.Config.Stripes+s.Config.Threads {
				ends--
			}
			if a.Kind == api.Store && a.Cell == 0 {
				stamps--
			}
		}
		if ends != 0 || stamps != 0 {
			t.Fatalf("P9: %v %v: %d ends and %d stamps too many: %s", s, picks, ends, stamps, toldAll(h))
		}
	}
}
