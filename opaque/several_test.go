package opaque

import (
	"fmt"
	"slices"
	"strconv"
	"strings"
	"testing"

	"opaque/api"
)

// An act is what several threads do. Its script tells the picks and their accesses: "1>" says that the picks behind it are of thread 1, an access is written as in a scene ("-" is none; t0 is the status of thread 0), and @5 behind it is the pick's draw.
type act struct {
	what   string
	config api.Config
	jobs   []api.Job
	script string
	cells  []int // behind all of it
}

func (a act) setup() api.Setup {
	return api.Setup{Config: a.config, Mem: []int{10, 11, 12, 13, 14, 15, 16, 17}[:a.config.Words], Jobs: a.jobs}
}

func (a act) played() ([]api.Pick, []api.Access) {
	var picks []api.Pick
	var accesses []api.Access
	thread := 0
	for _, word := range strings.Fields(a.script) {
		if number, ok := strings.CutSuffix(word, ">"); ok {
			thread, _ = strconv.Atoi(number)
			continue
		}
		word, draw, _ := strings.Cut(word, "@")
		drawn, _ := strconv.Atoi(draw)
		picks = append(picks, api.Pick{Thread: thread, Draw: drawn})
		accesses = append(accesses, named(a.config, word))
	}
	return picks, accesses
}

func named(c api.Config, word string) api.Access {
	p := strings.Split(word, ":")
	if len(p) != 4 {
		return api.Access{}
	}
	return api.Access{Kind: sceneNumber(0, p[0]), Cell: cellNumber(c, 0, p[1]), Seen: sceneNumber(0, p[2]), Put: sceneNumber(0, p[3])}
}

// perform compares the accesses and cells behind every one of the first picks with the script, and the jobs and attempts with the model.
func (a act) perform(t *testing.T) {
	t.Helper()
	picks, want := a.played()
	g := newThrong(a.setup())
	defer g.end()
	for n := 0; n <= len(picks); n++ {
		if n > 0 {
			g.pick(picks[n-1])
		}
		wantCame(t, fmt.Sprintf("%s, behind %d picks", a.what, n), a.setup(), picks[:n], g.results, g.history())
		l, e := Play(a.setup(), picks[:n])
		if e != api.OK || !slices.Equal(l, want[:n]) {
			t.Errorf("P5: %s: error %d, behind %d picks %s, want %s", a.what, e, n, text(l[max(0, n-3):]), text(want[max(0, n-3):n]))
			return
		}
		c, e := Cells(a.setup(), picks[:n])
		if e != api.OK || !slices.Equal(c, cellsBehind(a.setup(), want[:n])) {
			t.Errorf("P6: %s: error %d, behind %d picks %v, want %v", a.what, e, n, c, cellsBehind(a.setup(), want[:n]))
			return
		}
	}
	c, _ := Cells(a.setup(), picks)
	if !slices.Equal(c, a.cells) {
		t.Errorf("P6: %s: cells %v, want %v", a.what, c, a.cells)
	}
}

// crowd is a config in which each word is a stripe of its own.
func crowd(threads, words, greedy, retry int) api.Config {
	return api.Config{Threads: threads, Words: words, Stripes: words, Greedy: greedy, Retry: retry, Cap: 8, Fuel: 40}
}

func job(thread int, codes ...[]api.Ins) api.Job {
	return api.Job{Thread: thread, Code: slices.Concat(codes...)}
}

func reads(addrs ...int) []api.Ins {
	var code []api.Ins
	for _, addr := range addrs {
		code = append(code, set(1, addr), read(2, 1))
	}
	return code
}

// writes puts 70 more than its address into each word.
func writes(addrs ...int) []api.Ins {
	var code []api.Ins
	for _, addr := range addrs {
		code = append(code, set(1, addr), set(2, 70+addr), write(1, 2))
	}
	return code
}

// whole is the script of a job that writes words, each a stripe of its own, while nobody comes in its way and it takes no ticket. Of each word it is told: its address, its stripe's version, its value before, its value behind.
func whole(thread, clock int, words ...[4]int) string {
	me := thread + 1
	s := fmt.Sprintf(" %d> 1:c:%d:%d ", thread, clock, clock)
	shuts, puts, opens := "", "", ""
	for _, w := range words {
		s += fmt.Sprintf("1:t%d:0:0 3:o%d:0:%d 1:v%d:%d:%d ", thread, w[0], me, w[0], w[1], w[1])
		shuts += fmt.Sprintf("2:v%d:%d:-1 ", w[0], w[1])
		puts += fmt.Sprintf("2:w%d:%d:%d ", w[0], w[2], w[3])
		opens += fmt.Sprintf("2:v%d:-1:%d 2:o%d:%d:0 ", w[0], clock+1, w[0], me)
	}
	s += fmt.Sprintf("1:t%d:0:0 3:g:0:%d 1:c:%d:%d ", thread, me, clock, clock)
	return s + shuts + fmt.Sprintf("2:c:%d:%d 2:g:%d:0 ", clock, clock+1, me) + puts + opens + fmt.Sprintf("2:t%d:0:0 ", thread)
}

// look is the script of a Read that nobody comes in the way of.
func look(addr, version, value int) string {
	return fmt.Sprintf(" 1:v%d:%d:%d 1:w%d:%d:%d 1:v%d:%d:%d ", addr, version, version, addr, value, value, addr, version, version)
}

func performAll(t *testing.T, acts []act) {
	for _, a := range acts {
		a.perform(t)
	}
}

func TestExtendsInRead(t *testing.T) {
	one := [4]int{1, 0, 11, 71}
	performAll(t, []act{
		{"the log stands, in its order; then the time is the clock's", crowd(2, 3, 0, 4),
			[]api.Job{job(0, reads(2, 0, 1, 1)), job(1, writes(1))},
			"0> 1:c:0:0" + look(2, 0, 12) + look(0, 0, 10) + whole(1, 0, one) +
				"0>" + look(1, 1, 71) + "1:c:1:1 1:v2:0:0 1:v0:0:0 1:v1:1:1" + look(1, 1, 71) + "2:t0:0:0 -",
			[]int{1, 0, 0, 0, 1, 0, 0, 0, 0, 0, 0, 10, 71, 12}},
		{"the second of the log does not stand", crowd(2, 3, 0, 4),
			[]api.Job{job(0, reads(2, 0, 1)), job(1, writes(1, 0))},
			"0> 1:c:0:0" + look(2, 0, 12) + look(0, 0, 10) + whole(1, 0, one, [4]int{0, 0, 10, 70}) +
				"0>" + look(1, 1, 71) + "1:c:1:1 1:v2:0:0 1:v0:1:1 2:t0:0:0 1:c:1:1" + look(2, 0, 12) + look(0, 1, 70) + look(1, 1, 71) + "2:t0:0:0 -",
			[]int{1, 0, 0, 1, 1, 0, 0, 0, 0, 0, 0, 70, 71, 12}},
		{"one of the log is shut", crowd(3, 2, 0, 4),
			[]api.Job{job(0, reads(0, 1)), job(1, writes(1)), job(2, writes(0))},
			"0> 1:c:0:0" + look(0, 0, 10) + whole(1, 0, one) +
				"2> 1:c:1:1 1:t2:0:0 3:o0:0:3 1:v0:0:0 1:t2:0:0 3:g:0:3 1:c:1:1 2:v0:0:-1" +
				" 0>" + look(1, 1, 71) + "1:c:1:1 1:v0:-1:-1 2:t0:0:0 1:c:1:1 1:v0:-1:-1 1:v0:-1:-1",
			[]int{1, 0, 3, -1, 1, 3, 0, 0, 0, 0, 10, 71}},
		{"the stripe just read does not stand", crowd(2, 2, 0, 4),
			[]api.Job{job(0, reads(0, 1)), job(1, writes(1)), job(1, writes(1))},
			"0> 1:c:0:0" + look(0, 0, 10) + whole(1, 0, one) + "0>" + look(1, 1, 71) + whole(1, 1, [4]int{1, 1, 71, 71}) +
				"0> 1:c:2:2 1:v0:0:0 1:v1:2:2 2:t0:0:0 1:c:2:2" + look(0, 0, 10) + look(1, 2, 71) + "2:t0:0:0",
			[]int{2, 0, 0, 0, 2, 0, 0, 0, 0, 10, 71}},
		{"a stripe of the log keeps the version that it joined with", api.Config{Threads: 2, Words: 3, Stripes: 2, Retry: 4, Fuel: 40},
			[]api.Job{job(0, reads(0, 2)), job(1, writes(0))},
			"0> 1:c:0:0" + look(0, 0, 10) + whole(1, 0, [4]int{0, 0, 10, 70}) +
				"0> 1:v0:1:1 1:w2:12:12 1:v0:1:1 1:c:1:1 1:v0:1:1 2:t0:0:0 1:c:1:1",
			[]int{1, 0, 0, 1, 0, 0, 0, 0, 0, 70, 11, 12}},
		{"up to the clock, not to the version", crowd(2, 3, 0, 4),
			[]api.Job{job(0, reads(1, 2)), job(1, writes(1)), job(1, writes(2))},
			"0> 1:c:0:0" + whole(1, 0, one) + whole(1, 1, [4]int{2, 0, 12, 72}) +
				"0>" + look(1, 1, 71) + "1:c:2:2 1:v1:1:1" + look(2, 2, 72) + "2:t0:0:0",
			[]int{2, 0, 0, 0, 1, 2, 0, 0, 0, 0, 0, 10, 71, 72}},
		{"up to the clock as it stood ahead of the log", crowd(2, 3, 0, 4),
			[]api.Job{job(0, reads(1, 2)), job(1, writes(1)), job(1, writes(2))},
			"0> 1:c:0:0" + whole(1, 0, one) + "0>" + look(1, 1, 71) + "1:c:1:1" + whole(1, 1, [4]int{2, 0, 12, 72}) +
				"0> 1:v1:1:1" + look(2, 2, 72) + "1:c:2:2 1:v1:1:1 1:v2:2:2 2:t0:0:0",
			[]int{2, 0, 0, 0, 1, 2, 0, 0, 0, 0, 0, 10, 71, 72}},
		{"also what it holds", crowd(2, 3, 0, 4),
			[]api.Job{job(0, reads(1), writes(1), reads(2)), job(1, writes(2))},
			"0> 1:c:0:0" + look(1, 0, 11) + "1:t0:0:0 3:o1:0:1 1:v1:0:0" + whole(1, 0, [4]int{2, 0, 12, 72}) +
				"0>" + look(2, 1, 72) + "1:c:1:1 1:v1:0:0 1:v2:1:1 1:t0:0:0 3:g:0:1 1:c:1:1 2:v1:0:-1 2:c:1:2 2:g:1:0 2:w1:11:71 2:v1:-1:2 2:o1:1:0 2:t0:0:0",
			[]int{2, 0, 0, 0, 2, 1, 0, 0, 0, 0, 0, 10, 71, 72}},
	})
}

func TestExtendsAsStripeIsGot(t *testing.T) {
	one := [4]int{1, 0, 11, 71}
	performAll(t, []act{
		{"the log stands; then a ticket, and no check in the gate", crowd(2, 3, 2, 4),
			[]api.Job{job(0, reads(0), writes(2, 1)), job(1, writes(1))},
			"0> 1:c:0:0" + look(0, 0, 10) + "1:t0:0:0 3:o2:0:1 1:v2:0:0" + whole(1, 0, one) +
				"0> 1:t0:0:0 3:o1:0:1 1:v1:1:1 1:c:1:1 1:v0:0:0 4:k:0:1 3:t0:0:8 1:t0:8:8 3:g:0:1 1:c:1:1 2:v2:0:-1 2:v1:1:-1 2:c:1:2 2:g:1:0 2:w2:12:72 2:w1:71:71 2:v2:-1:2 2:o2:1:0 2:v1:-1:2 2:o1:1:0 2:t0:8:0 -",
			[]int{2, 1, 0, 0, 2, 2, 0, 0, 0, 0, 0, 10, 71, 72}},
		{"the log does not stand: both stripes are given back", crowd(2, 3, 2, 4),
			[]api.Job{job(0, reads(0), writes(2, 1)), job(1, writes(0))},
			"0> 1:c:0:0" + look(0, 0, 10) + "1:t0:0:0 3:o2:0:1 1:v2:0:0" + whole(1, 0, [4]int{0, 0, 10, 70}) +
				"0> 1:t0:0:0 3:o1:0:1 1:v1:0:0 4:k:0:1 3:t0:0:8 1:t0:8:8 3:g:0:1 1:c:1:1 1:v0:1:1 2:g:1:0 2:o2:1:0 2:o1:1:0 2:t0:8:8 1:c:1:1",
			[]int{1, 1, 0, 1, 0, 0, 0, 0, 0, 8, 0, 70, 11, 12}},
		{"the log does not stand any more as the second stripe is got", crowd(2, 3, 0, 4),
			[]api.Job{job(0, reads(0), writes(2, 1)), job(1, writes(0)), job(1, writes(1))},
			"0> 1:c:0:0" + look(0, 0, 10) + "1:t0:0:0 3:o2:0:1 1:v2:0:0" + whole(1, 0, [4]int{0, 0, 10, 70}) + whole(1, 1, one) +
				"0> 1:t0:0:0 3:o1:0:1 1:v1:2:2 1:c:2:2 1:v0:1:1 2:o2:1:0 2:o1:1:0 2:t0:0:0 1:c:2:2" + look(0, 1, 70),
			[]int{2, 0, 0, 1, 2, 0, 0, 0, 0, 0, 0, 70, 71, 12}},
		{"with nothing read", crowd(2, 2, 0, 4),
			[]api.Job{job(0, writes(1)), job(1, writes(1))},
			"0> 1:c:0:0" + whole(1, 0, one) +
				"0> 1:t0:0:0 3:o1:0:1 1:v1:1:1 1:c:1:1 1:t0:0:0 3:g:0:1 1:c:1:1 2:v1:1:-1 2:c:1:2 2:g:1:0 2:w1:71:71 2:v1:-1:2 2:o1:1:0 2:t0:0:0",
			[]int{2, 0, 0, 0, 2, 0, 0, 0, 0, 10, 71}},
		{"the stripe got was read before", crowd(2, 2, 0, 4),
			[]api.Job{job(0, reads(1), writes(1)), job(1, writes(1))},
			"0> 1:c:0:0" + look(1, 0, 11) + whole(1, 0, one) +
				"0> 1:t0:0:0 3:o1:0:1 1:v1:1:1 1:c:1:1 1:v1:1:1 2:o1:1:0 2:t0:0:0 1:c:1:1",
			[]int{1, 0, 0, 0, 1, 0, 0, 0, 0, 10, 71}},
	})
}

func TestChecksInGate(t *testing.T) {
	performAll(t, []act{
		{"what was read stands, and what is held is not looked at", crowd(2, 4, 0, 4),
			[]api.Job{job(0, reads(2, 1, 0), writes(1)), job(1, writes(3))},
			"0> 1:c:0:0" + look(2, 0, 12) + look(1, 0, 11) + look(0, 0, 10) + "1:t0:0:0 3:o1:0:1 1:v1:0:0 1:t0:0:0" + whole(1, 0, [4]int{3, 0, 13, 73}) +
				"0> 3:g:0:1 1:c:1:1 1:v2:0:0 1:v0:0:0 2:v1:0:-1 2:c:1:2 2:g:1:0 2:w1:11:71 2:v1:-1:2 2:o1:1:0 2:t0:0:0",
			[]int{2, 0, 0, 0, 2, 0, 1, 0, 0, 0, 0, 0, 0, 10, 71, 12, 73}},
		{"the second does not stand: gate, stripes in their order, ticket, status", crowd(2, 4, 0, 0),
			[]api.Job{job(0, reads(2, 0), writes(3, 1)), job(1, writes(0))},
			"0> 1:c:0:0" + look(2, 0, 12) + look(0, 0, 10) + "1:t0:0:0 3:o3:0:1 1:v3:0:0 1:t0:0:0 3:o1:0:1 1:v1:0:0" + whole(1, 0, [4]int{0, 0, 10, 70}) +
				"0> 1:t0:0:0 3:g:0:1 1:c:1:1 1:v2:0:0 1:v0:1:1 2:g:1:0 2:o3:1:0 2:o1:1:0 4:k:0:1 2:t0:0:8 1:c:1:1" + look(2, 0, 12) + look(0, 1, 70) +
				"1:t0:8:8 3:o3:0:1 1:v3:0:0 1:t0:8:8 3:o1:0:1 1:v1:0:0 1:t0:8:8 3:g:0:1 1:c:1:1 2:v3:0:-1",
			[]int{1, 1, 1, 1, 0, 0, -1, 0, 1, 0, 1, 8, 0, 70, 11, 12, 13}},
		{"one is shut", crowd(2, 2, 0, 4),
			[]api.Job{job(0, reads(0), writes(1)), job(1, writes(0))},
			"0> 1:c:0:0" + look(0, 0, 10) + "1:t0:0:0 3:o1:0:1 1:v1:0:0 1:t0:0:0" +
				" 1> 1:c:0:0 1:t1:0:0 3:o0:0:2 1:v0:0:0 1:t1:0:0 3:g:0:2 1:c:0:0 2:v0:0:-1 0> 3:g:2:2 1> 2:c:0:1 0> 3:g:2:2 1> 2:g:2:0" +
				" 0> 3:g:0:1 1:c:1:1 1:v0:-1:-1 2:g:1:0 2:o1:1:0 2:t0:0:0 1:c:1:1 1:v0:-1:-1 1> 2:w0:10:70 2:v0:-1:1 2:o0:2:0 0> 1:v0:1:1",
			[]int{1, 0, 0, 1, 0, 0, 0, 0, 0, 70, 11}},
		{"a clock that stands still: no look", crowd(2, 2, 0, 4),
			[]api.Job{job(0, reads(0), writes(1)), job(1, writes(0))},
			"1> 1:c:0:0 1:t1:0:0 3:o0:0:2 1:v0:0:0" +
				" 0> 1:c:0:0" + look(0, 0, 10) + "1:t0:0:0 3:o1:0:1 1:v1:0:0 1:t0:0:0 3:g:0:1 1:c:0:0 2:v1:0:-1 2:c:0:1",
			[]int{1, 0, 1, 0, -1, 2, 1, 0, 0, 10, 11}},
	})
}

// holding has thread 0 at the stripe 0, which it holds, with what else it is to write behind that.
const holding = "0> 1:c:0:0 1:t0:0:0 3:o0:0:1 1:v0:0:0 "

// ranked has thread 1 come to rank 1 by failing at stripe 0, and mark thread 0.
const ranked = "1> 1:c:0:0 1:t1:0:0 3:o0:1:1 4:k:0:1 2:t1:0:8@7 "
const rested = "- "
const marking = "1:c:0:0 1:t1:8:8 3:o0:1:1 1:t0:0:0 3:t0:0:2 1:t1:8:8 "

func TestMarksAreSeen(t *testing.T) {
	two := []api.Job{job(0, writes(0, 1)), job(1, writes(0))}
	performAll(t, []act{
		{"as a stripe is got; the wait ends with the winner's job", crowd(2, 2, 0, 0), two,
			holding + ranked + rested + marking +
				"0> 1:t0:2:2 2:o0:1:0 4:k:1:2 2:t0:2:16@7 1:t1:8:8@7 1:t1:8:8 " +
				"1> 3:o0:0:2 1:v0:0:0 1:t1:8:8 3:g:0:2 1:c:0:0 2:v0:0:-1 2:c:0:1 2:g:2:0 2:w0:10:70 2:v0:-1:1 0> 1:t1:8:8 1> 2:o0:2:0 0> 1:t1:8:8 1> 2:t1:8:0 - " +
				"0> 1:t1:0:0@7 1:c:1:1 1:t0:16:16 3:o0:0:1 1:v0:1:1 1:t0:16:16 3:o1:0:1 1:v1:0:0 1:t0:16:16 3:g:0:1 1:c:1:1",
			[]int{1, 2, 1, 1, 0, 1, 1, 16, 0, 70, 11}},
		{"as it commits, with two stripes", crowd(2, 2, 0, 0), two,
			holding + ranked + rested + "1:c:0:0 1:t1:8:8 3:o0:1:1 1:t0:0:0 0> 1:t0:0:0 3:o1:0:1 1:v1:0:0 1> 3:t0:0:2 " +
				"0> 1:t0:2:2 2:o0:1:0 1> 1:t1:8:8 3:o0:0:2 1:v0:0:0 0> 2:o1:1:0 4:k:1:2 2:t0:2:16 1:t1:8:8",
			[]int{0, 2, 0, 0, 0, 2, 0, 16, 8, 10, 11}},
		{"too late: it is behind its look at the status", crowd(2, 2, 0, 0), []api.Job{job(0, writes(0)), job(1, writes(0))},
			holding + "1:t0:0:0 " + ranked + rested + marking +
				"0> 3:g:0:1 1:c:0:0 2:v0:0:-1 2:c:0:1 2:g:1:0 2:w0:10:70 2:v0:-1:1 2:o0:1:0 2:t0:2:0 - 1> 3:o0:0:2 1:v0:1:1 1:c:1:1 1:t1:8:8",
			[]int{1, 1, 0, 1, 0, 2, 0, 0, 8, 70, 11}},
		{"without a rank of its own: the wait ends with the winner's job alone", crowd(2, 2, 0, 1), two,
			holding + "1> 1:c:0:0 1:t1:0:0 3:o0:1:1 2:t1:0:0 1:c:0:0 1:t1:0:0 3:o0:1:1 4:k:0:1 2:t1:0:8 " + marking +
				"0> 1:t0:2:2 2:o0:1:0 2:t0:2:0@5 1:t1:8:8 1:t1:8:8 " +
				"1> 3:o0:0:2 1:v0:0:0 1:t1:8:8 3:g:0:2 1:c:0:0 2:v0:0:-1 2:c:0:1 2:g:2:0 2:w0:10:70 2:v0:-1:1 2:o0:2:0 0> 1:t1:8:8 1> 2:t1:8:0 0> 1:t1:0:0 1:c:1:1 1:t0:0:0",
			[]int{1, 1, 0, 1, 0, 0, 0, 0, 0, 70, 11}},
		{"a job that gets nothing ends over its mark", crowd(2, 2, 0, 0), []api.Job{job(0, writes(0)), job(0, reads(1)), job(1, writes(0))},
			holding + ranked + rested + "1:c:0:0 1:t1:8:8 3:o0:1:1 1:t0:0:0 " +
				"0> 1:t0:0:0 3:g:0:1 1:c:0:0 2:v0:0:-1 2:c:0:1 2:g:1:0 2:w0:10:70 2:v0:-1:1 2:o0:1:0 2:t0:0:0 1> 3:t0:0:2 0> 1:c:1:1" + look(1, 0, 11) + "2:t0:2:0 -",
			[]int{1, 1, 0, 1, 0, 0, 0, 0, 8, 70, 11}},
		{"a mark comes to the next job", crowd(2, 2, 0, 4), []api.Job{job(0, writes(0)), job(0, writes(1)), job(1, writes(0))},
			holding + strings.Repeat("1> 1:c:0:0 1:t1:0:0 3:o0:1:1 2:t1:0:0 ", 4) + "1:c:0:0 1:t1:0:0 3:o0:1:1 4:k:0:1 2:t1:0:8 1:c:0:0 1:t1:8:8 3:o0:1:1 1:t0:0:0 " +
				"0> 1:t0:0:0 3:g:0:1 1:c:0:0 2:v0:0:-1 2:c:0:1 2:g:1:0 2:w0:10:70 2:v0:-1:1 2:o0:1:0 2:t0:0:0 1:c:1:1 1> 3:t0:0:2 " +
				"0> 1:t0:2:2 2:t0:2:0@9 1:t1:8:8",
			[]int{1, 1, 0, 1, 0, 0, 0, 0, 8, 70, 11}},
		{"a mark comes to a thread without a job", crowd(2, 2, 0, 0), []api.Job{job(0, writes(0)), job(1, writes(0))},
			holding + ranked + rested + "1:c:0:0 1:t1:8:8 3:o0:1:1 1:t0:0:0 " +
				"0> 1:t0:0:0 3:g:0:1 1:c:0:0 2:v0:0:-1 2:c:0:1 2:g:1:0 2:w0:10:70 2:v0:-1:1 2:o0:1:0 2:t0:0:0 - 1> 3:t0:0:2 0> -",
			[]int{1, 1, 0, 1, 0, 0, 0, 2, 8, 70, 11}},
	})
}

// Behind a ticket for so many stripes the own status may hold a mark already.
func TestRankComesLate(t *testing.T) {
	two := []api.Job{job(0, writes(0)), job(1, writes(0))}
	late := "0> 1:c:0:0 1:t0:0:0 3:o0:0:1 1:v0:0:0 4:k:0:1 " +
		"1> 1:c:0:0 1:t1:0:0 3:o0:1:1 4:k:1:2 2:t1:0:16 1:c:0:0 1:t1:16:16 3:o0:1:1 1:t0:0:0 3:t0:0:2 "
	performAll(t, []act{
		{"it fails, but waits for no worse rank", crowd(2, 1, 1, 0), two,
			late + "0> 3:t0:2:2 2:o0:1:0 2:t0:2:8@5 1:t1:16:16 1:c:0:0 1:t0:8:8 1> 1:t1:16:16 3:o0:0:2 0> 3:o0:2:2 1:t1:16:16 3:t1:16:17 1:t0:8:8 " +
				"1> 1:v0:0:0 1:t1:17:17 2:o0:2:0 2:t1:17:16 1:t0:8:8 0> 3:o0:0:1 1:v0:0:0 1> 1:t0:8:8",
			[]int{0, 2, 0, 0, 1, 8, 16, 10}},
		{"the mark comes first to the look that follows", crowd(2, 2, 1, 0), []api.Job{job(0, writes(0, 1)), job(1, writes(0))},
			"0> 1:c:0:0 1:t0:0:0 3:o0:0:1 1> 1:c:0:0 1:t1:0:0 3:o0:1:1 4:k:0:1 2:t1:0:8 1:c:0:0 1:t1:8:8 3:o0:1:1 " +
				"0> 1:v0:0:0 4:k:1:2 3:t0:0:16 1> 1:t0:16:16 3:t0:16:18 0> 1:t0:18:18 2:o0:1:0 2:t0:18:16 1:t1:8:8",
			[]int{0, 2, 0, 0, 0, 0, 0, 16, 8, 10, 11}},
	})
}

func TestOwnerIsMet(t *testing.T) {
	three := []api.Job{job(0, writes(0, 1)), job(1, writes(2, 0)), job(2, writes(0))}
	performAll(t, []act{
		{"without a rank: it fails as often as Retry says, then with a ticket", crowd(2, 3, 0, 2), three[:2],
			holding + strings.Repeat("1> 1:c:0:0 1:t1:0:0 3:o2:0:2 1:v2:0:0 1:t1:0:0 3:o0:1:1 2:o2:2:0 2:t1:0:0 ", 2) +
				"1:c:0:0 1:t1:0:0 3:o2:0:2 1:v2:0:0 1:t1:0:0 3:o0:1:1 2:o2:2:0 4:k:0:1 2:t1:0:8 1:c:0:0 1:t1:8:8 3:o2:0:2 1:v2:0:0 1:t1:8:8 3:o0:1:1 1:t0:0:0 3:t0:0:2 1:t1:8:8 3:o0:1:1 1:t0:2:2 1:t1:8:8",
			[]int{0, 1, 0, 0, 0, 0, 1, 0, 2, 2, 8, 10, 11, 12}},
		{"another one was quicker: no mark of its own", crowd(3, 3, 0, 0), []api.Job{job(0, writes(0, 1)), job(1, writes(0)), job(2, writes(0))},
			holding + ranked + rested + "1:c:0:0 1:t1:8:8 3:o0:1:1 1:t0:0:0 2> 1:c:0:0 1:t2:0:0 3:o0:1:1 4:k:1:2 2:t2:0:16 1:c:0:0 1:t2:16:16 3:o0:1:1 1:t0:0:0 " +
				"1> 3:t0:0:2 2> 3:t0:2:2 1:t2:16:16 1> 1:t1:8:8 0> 1:t0:2:2 2:o0:1:0 4:k:2:3 2:t0:2:24 1:t1:8:8 2> 3:o0:0:3 1:v0:0:0 1:t2:16:16",
			[]int{0, 3, 0, 0, 0, 0, 3, 0, 0, 24, 8, 16, 10, 11, 12}},
		{"a third one sees the mark of the second, and looks again", crowd(3, 3, 0, 0), three,
			holding + "1> 1:c:0:0 1:t1:0:0 3:o2:0:2 1:v2:0:0 1:t1:0:0 3:o0:1:1 2:o2:2:0 4:k:0:1 2:t1:0:8 1:c:0:0 1:t1:8:8 3:o2:0:2 1:v2:0:0 1:t1:8:8 3:o0:1:1 1:t0:0:0 3:t0:0:2 " +
				"2> 1:c:0:0 1:t2:0:0 3:o0:1:1 4:k:1:2 2:t2:0:16@2 1:c:0:0 1:t2:16:16 3:o0:1:1 1:t0:2:2 1:t2:16:16 3:o0:1:1 1:t0:2:2 " +
				"0> 1:t0:2:2 2:o0:1:0 4:k:2:3 2:t0:2:24 1:t1:8:8 2> 1:t2:16:16 3:o0:0:3 1> 1:t1:8:8 3:o0:3:3 1:t2:16:16 3:t2:16:18 1:t1:8:8",
			[]int{0, 3, 0, 0, 0, 0, 3, 0, 2, 24, 8, 18, 10, 11, 12}},
		{"a better rank with a mark: it gives way all the same", crowd(3, 1, 1, 0), []api.Job{job(0, writes(0)), job(1, writes(0)), job(2, writes(0))},
			"0> 1:c:0:0 1:t0:0:0 3:o0:0:1 1> 1:c:0:0 1:t1:0:0 3:o0:1:1 4:k:0:1 2:t1:0:8 1:c:0:0 1:t1:8:8 3:o0:1:1 " +
				"0> 1:v0:0:0 4:k:1:2 3:t0:0:16 2> 1:c:0:0 1:t2:0:0 3:o0:1:1 4:k:2:3 2:t2:0:24 1:c:0:0 1:t2:24:24 3:o0:1:1 " +
				"1> 1:t0:16:16 3:t0:16:18 2> 1:t0:18:18 2:t2:24:24@8 1:t0:18:18 0> 1:t0:18:18 2:o0:1:0 2:t0:18:16 2> 1:t0:16:16 0> 1:t1:8:8",
			[]int{0, 3, 0, 0, 0, 16, 8, 24, 10}},
	})
}

// Thread 1 gives way to thread 0 while thread 2 marks it: then the one that marked it is the winner. The next time it gives way without a mark.
func TestGivesWay(t *testing.T) {
	act{"giving way, with a mark and without", crowd(3, 3, 1, 4), []api.Job{job(0, writes(0)), job(1, writes(1, 0)), job(2, writes(2, 1))},
		"0> 1:c:0:0 1:t0:0:0 3:o0:0:1 1:v0:0:0 4:k:0:1 3:t0:0:8 " +
			"2> 1:c:0:0 1:t2:0:0 3:o2:0:3 1:v2:0:0 4:k:1:2 3:t2:0:16 " +
			"1> 1:c:0:0 1:t1:0:0 3:o1:0:2 1:v1:0:0 4:k:2:3 3:t1:0:24 1:t1:24:24 3:o0:1:1 " +
			"2> 1:t2:16:16 3:o1:2:2 1:t1:24:24 3:t1:24:27 " +
			"1> 1:t0:8:8 2:o1:2:0 2:t1:27:24@1 1:t2:16:16 " +
			"2> 1:t2:16:16 3:o1:0:3 1:v1:0:0 1:t2:16:16 3:g:0:3 1:c:0:0 2:v2:0:-1 2:v1:0:-1 2:c:0:1 2:g:3:0 2:w2:12:72 2:w1:11:71 2:v2:-1:1 2:o2:3:0 2:v1:-1:1 2:o1:3:0 " +
			"1> 1:t2:16:16 2> 2:t2:16:0 1> 1:t2:0:0 1:c:1:1 1:t1:24:24 3:o1:0:2 1:v1:1:1 1:t1:24:24 3:o0:1:1 1:t0:8:8 2:o1:2:0 2:t1:24:24@1 1:t0:8:8 " +
			"0> 1:t0:8:8 3:g:0:1 1:c:1:1 2:v0:0:-1 2:c:1:2 2:g:1:0 2:w0:10:70 2:v0:-1:2 2:o0:1:0 1> 1:t0:8:8 0> 2:t0:8:0 - " +
			"1> 1:t0:0:0 1:c:2:2 1:t1:24:24 3:o1:0:2 1:v1:1:1 1:t1:24:24 3:o0:0:2 1:v0:2:2 1:t1:24:24 3:g:0:2 1:c:2:2 2:v1:1:-1 2:v0:2:-1 2:c:2:3 2:g:2:0 2:w1:71:71 2:w0:70:70 2:v1:-1:3 2:o1:2:0 2:v0:-1:3 2:o0:2:0 2:t1:24:0 - 2> -",
		[]int{3, 3, 0, 3, 3, 1, 0, 0, 0, 0, 0, 0, 70, 71, 72}}.perform(t)
}

// The winner's next job may have a worse rank than the one that waits: then the wait ends too.
func TestWinnerComesBackWorse(t *testing.T) {
	act{"the winner's next job has taken a ticket", crowd(2, 2, 1, 0), []api.Job{job(0, writes(0)), job(1, writes(0)), job(0, writes(1))},
		"0> 1:c:0:0 1:t0:0:0 3:o0:0:1 1:v0:0:0 4:k:0:1 3:t0:0:8 " +
			"1> 1:c:0:0 1:t1:0:0 3:o0:1:1 4:k:1:2 2:t1:0:16 1:c:0:0 1:t1:16:16 3:o0:1:1 1:t0:8:8 2:t1:16:16@3 1:t0:8:8 " +
			"0> 1:t0:8:8 3:g:0:1 1:c:0:0 2:v0:0:-1 2:c:0:1 2:g:1:0 2:w0:10:70 2:v0:-1:1 2:o0:1:0 2:t0:8:0 1:c:1:1 1:t0:0:0 3:o1:0:1 1:v1:0:0 4:k:2:3 3:t0:0:24 " +
			"1> 1:t0:24:24 1:c:1:1 1:t1:16:16 3:o0:0:2 1:v0:1:1",
		[]int{1, 3, 0, 1, 0, 2, 1, 24, 16, 70, 11}}.perform(t)
}

// A job begins without the rank and the failures of the one before.
func TestNextJobBeginsAnew(t *testing.T) {
	act{"a job fails behind one that failed", crowd(2, 1, 0, 1), []api.Job{job(0, writes(0)), job(1, writes(0)), job(1, writes(0)), job(0, writes(0))},
		"0> 1:c:0:0 1:t0:0:0 3:o0:0:1 1> 1:c:0:0 1:t1:0:0 3:o0:1:1 2:t1:0:0@1 - 1:c:0:0 1:t1:0:0 3:o0:1:1 4:k:0:1 2:t1:0:8@2 - - " +
			"0> 1:v0:0:0 1:t0:0:0 3:g:0:1 1:c:0:0 2:v0:0:-1 2:c:0:1 2:g:1:0 2:w0:10:70 2:v0:-1:1 2:o0:1:0 2:t0:0:0 " +
			"1> 1:c:1:1 1:t1:8:8 3:o0:0:2 1:v0:1:1 1:t1:8:8 3:g:0:2 1:c:1:1 2:v0:1:-1 2:c:1:2 2:g:2:0 2:w0:70:70 2:v0:-1:2 2:o0:2:0 2:t1:8:0 " +
			"0> 1:c:2:2 1:t0:0:0 3:o0:0:1 1> 1:c:2:2 1:t1:0:0 3:o0:1:1 2:t1:0:0@5 - 1:c:2:2",
		[]int{2, 1, 0, 2, 1, 0, 0, 70}}.perform(t)
}

func TestSeveralExample(t *testing.T) {
	code := []api.Ins{set(1, 7), write(0, 1)}
	s := api.Setup{Config: api.Config{Threads: 2, Words: 1, Stripes: 1, Fuel: 10}, Mem: []int{5}, Jobs: []api.Job{{Thread: 0, Code: code}, {Thread: 1, Code: code}}}
	six := "1:0:0:0 1:5:0:0 3:4:0:1 1:0:0:0 1:6:0:0 3:4:1:1 4:1:0:1 2:6:0:8 1:0:0:0 1:6:8:8 3:4:1:1 1:5:0:0 3:5:0:2 1:6:8:8"
	picks := append(times(3, 0), times(11, 1)...)
	wantPlay(t, "example 6", s, picks, six, []int{0, 1, 0, 0, 1, 2, 8, 5})
	seven := six + " 1:3:0:0 1:5:2:2 2:4:1:0 4:1:1:2 2:5:2:16 1:6:8:8 1:6:8:8"
	wantPlay(t, "example 7", s, append(picks, times(7, 0)...), seven, []int{0, 2, 0, 0, 0, 16, 8, 5})
}

// The cells where the picks end in the midst of a failure, of a rest or of a wait.
func TestCellsInFailure(t *testing.T) {
	s := act{config: crowd(2, 2, 0, 0), jobs: []api.Job{job(0, reads(0), writes(1)), job(1, writes(0))}}.setup()
	picks := slices.Concat(times(8, 0), times(14, 1), times(9, 0))
	picks[28].Draw = 1
	for n, want := range map[int][]int{
		22: {1, 0, 0, 1, 0, 0, 1, 0, 0, 70, 11}, // thread 0 holds stripe 1, and has read what does not stand any more
		25: {1, 0, 1, 1, 0, 0, 1, 0, 0, 70, 11}, // it has seen that, in the gate
		26: {1, 0, 0, 1, 0, 0, 1, 0, 0, 70, 11},
		27: {1, 0, 0, 1, 0, 0, 0, 0, 0, 70, 11},
		28: {1, 1, 0, 1, 0, 0, 0, 0, 0, 70, 11},
		29: {1, 1, 0, 1, 0, 0, 0, 8, 0, 70, 11},
		30: {1, 1, 0, 1, 0, 0, 0, 8, 0, 70, 11}, // it rests
		31: {1, 1, 0, 1, 0, 0, 0, 8, 0, 70, 11},
	} {
		c, e := Cells(s, picks[:n])
		if e != api.OK || !slices.Equal(c, want) {
			t.Errorf("P6: a failure, behind %d picks: %v, %d, want %v", n, c, e, want)
		}
	}
	s = act{config: crowd(2, 1, 0, 0), jobs: []api.Job{job(0, writes(0)), job(1, writes(0))}}.setup()
	picks = slices.Concat(times(4, 0), times(10, 1), times(5, 0), times(2, 1), times(2, 0))
	for n, want := range map[int][]int{
		14: {0, 1, 0, 0, 1, 2, 8, 10}, // thread 0 is marked
		15: {0, 1, 0, 0, 1, 2, 8, 10},
		16: {0, 1, 0, 0, 0, 2, 8, 10},
		17: {0, 2, 0, 0, 0, 2, 8, 10},
		18: {0, 2, 0, 0, 0, 16, 8, 10},
		19: {0, 2, 0, 0, 0, 16, 8, 10}, // it waits
		21: {0, 2, 0, 0, 2, 16, 8, 10}, // thread 1 has the stripe now
		23: {0, 2, 0, 0, 2, 16, 8, 10},
	} {
		c, e := Cells(s, picks[:n])
		if e != api.OK || !slices.Equal(c, want) {
			t.Errorf("P6: a wait, behind %d picks: %v, %d, want %v", n, c, e, want)
		}
	}
}
