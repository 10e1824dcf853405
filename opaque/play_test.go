package opaque

import (
	"fmt"
	"math"
	"slices"
	"strconv"
	"strings"
	"testing"

	"opaque/api"
)

// times picks a thread again and again.
func times(n int, thread int) []api.Pick {
	return slices.Repeat([]api.Pick{{Thread: thread}}, n)
}

// text writes accesses as the document does, and None as "-".
func text(l []api.Access) string {
	var words []string
	for _, a := range l {
		word := fmt.Sprintf("%d:%d:%d:%d", a.Kind, a.Cell, a.Seen, a.Put)
		if word == "0:0:0:0" {
			word = "-"
		}
		words = append(words, word)
	}
	return strings.Join(words, " ")
}

// wantPlay compares the accesses and, behind them, the cells.
func wantPlay(t *testing.T, what string, s api.Setup, picks []api.Pick, want string, cells []int) {
	t.Helper()
	l, e := Play(s, picks)
	if e != api.OK || text(l) != want {
		t.Errorf("P5: %s: error %d\n%s, want\n%s", what, e, text(l), want)
	}
	c, e := Cells(s, picks)
	if e != api.OK || !slices.Equal(c, cells) {
		t.Errorf("P6: %s: error %d, cells %v, want %v", what, e, c, cells)
	}
}

func TestPlayExample(t *testing.T) {
	s := api.Setup{Config: soloConfig(1, 10), Mem: []int{5}, Jobs: []api.Job{{Code: oneMore()}}}
	want := "1:0:0:0 1:3:0:0 1:6:5:5 1:3:0:0 1:5:0:0 3:4:0:1 1:3:0:0 1:5:0:0 3:2:0:1 1:0:0:0 2:3:0:-1 2:0:0:1 2:2:1:0 2:6:5:6 2:3:-1:1 2:4:1:0 2:5:0:0 -"
	wantPlay(t, "example 1", s, times(18, 0), want, []int{1, 0, 0, 1, 0, 0, 6})
}

// A scene is what the jobs of one thread do, told without the numbers that hang on how many threads there are.
// In its accesses the cells are c, k and g (clock, tickets, gate), v and o with a stripe (version, owner), t (the thread's own status) and w with a word; "me" is 1 more than the thread's number.
type scene struct {
	what   string
	config api.Config
	mem    []int
	codes  [][]api.Ins
	want   string
	words  []int // behind all of it
}

// setup gives the codes of the scene to one of so many threads.
func (sc scene) setup(threads int, thread int) api.Setup {
	s := api.Setup{Config: sc.config, Mem: sc.mem}
	s.Config.Threads = threads
	for _, code := range sc.codes {
		s.Jobs = append(s.Jobs, api.Job{Thread: thread, Code: code})
	}
	return s
}

// cellNumber is the table of cells. With a number behind t it is the status of the thread that comes so many behind this one.
func cellNumber(c api.Config, thread int, name string) int {
	n, _ := strconv.Atoi(name[1:])
	switch name[0] {
	case 'c':
		return 0
	case 'k':
		return 1
	case 'g':
		return 2
	case 'v':
		return 3 + n
	case 'o':
		return 3 + c.Stripes + n
	case 't':
		return 3 + 2*c.Stripes + thread + n
	}
	return 3 + 2*c.Stripes + c.Threads + n
}

func sceneNumber(thread int, s string) int {
	if s == "me" {
		return thread + 1
	}
	n, _ := strconv.Atoi(s)
	return n
}

// accesses are those of the scene, with the numbers in place of the names.
func (sc scene) accesses(c api.Config, thread int) []api.Access {
	var l []api.Access
	for _, word := range strings.Fields(sc.want) {
		p := strings.Split(word, ":")
		kind, _ := strconv.Atoi(p[0])
		l = append(l, api.Access{Kind: kind, Cell: cellNumber(c, thread, p[1]), Seen: sceneNumber(thread, p[2]), Put: sceneNumber(thread, p[3])})
	}
	return l
}

// cellsBehind are the cells that the accesses leave, one put behind the other.
func cellsBehind(s api.Setup, l []api.Access) []int {
	cells := make([]int, 3+2*s.Config.Stripes+s.Config.Threads)
	cells = append(cells, s.Mem...)
	for _, a := range l {
		if a.Kind != api.None {
			cells[a.Cell] = a.Put
		}
	}
	return cells
}

func config(words, stripes, greedy, fuel int) api.Config {
	return api.Config{Threads: 1, Words: words, Stripes: stripes, Greedy: greedy, Fuel: fuel}
}

func set(register, value int) api.Ins { return ins(api.Set, register, value, 0) }
func read(into, addr int) api.Ins     { return ins(api.Read, into, addr, 0) }
func write(addr, from int) api.Ins    { return ins(api.Write, addr, from, 0) }

// longCode writes words of all stripes, some more than once, and reads in between.
func longCode() []api.Ins {
	return []api.Ins{
		set(0, 4), set(1, 50), write(0, 1), // word 4: stripe 1 is got
		set(2, 2), write(2, 0), // word 2: stripe 2 is got
		set(2, 1), write(2, 1), // word 1: stripe 1 is held
		read(3, 0),            // word 4 from the write log
		set(2, 7), read(3, 2), // word 7 of a stripe that is held
		set(2, 6), read(3, 2), // word 6 of stripe 0, which is not
		write(2, 3),             // word 6: stripe 0 is got
		set(1, 51), write(0, 1), // word 4 again: it keeps its place in the log
	}
}

const longWant = "1:c:0:0 " +
	"1:t:0:0 3:o1:0:me 1:v1:0:0 " +
	"1:t:0:0 3:o2:0:me 1:v2:0:0 4:k:0:1 3:t:0:8 " +
	"1:w7:17:17 " +
	"1:v0:0:0 1:w6:16:16 1:v0:0:0 " +
	"1:t:8:8 3:o0:0:me 1:v0:0:0 " +
	"1:t:8:8 3:g:0:me 1:c:0:0 2:v1:0:-1 2:v2:0:-1 2:v0:0:-1 2:c:0:1 2:g:me:0 " +
	"2:w4:14:51 2:w2:12:4 2:w1:11:50 2:w6:16:16 " +
	"2:v1:-1:1 2:o1:me:0 2:v2:-1:1 2:o2:me:0 2:v0:-1:1 2:o0:me:0 2:t:8:0"

const twoHeld = "1:c:0:0 1:t:0:0 3:o1:0:me 1:v1:0:0 1:t:0:0 3:o0:0:me 1:v0:0:0 4:k:0:1 3:t:0:8 2:o1:me:0 2:o0:me:0 2:t:8:0"

const writeAgain = "1:t:0:0 3:o0:0:me 1:v0:1:1 4:k:1:2 3:t:0:16 1:t:16:16 3:g:0:me 1:c:1:1 2:v0:1:-1 2:c:1:2 2:g:me:0 2:w0:7:7 2:v0:-1:2 2:o0:me:0 2:t:16:0"

func scenes() []scene {
	eight := []int{10, 11, 12, 13, 14, 15, 16, 17}
	quick := "1:c:0:0 2:t:0:0"
	readTwice := "1:c:0:0 1:v0:0:0 1:w0:3:3 1:v0:0:0 1:v0:0:0 1:w0:3:3 1:v0:0:0 1:v0:0:0 1:w2:5:5 1:v0:0:0 1:v1:0:0 1:w1:4:4 1:v1:0:0 2:t:0:0"
	writeOnce := "1:c:0:0 1:t:0:0 3:o0:0:me 1:v0:0:0 4:k:0:1 3:t:0:8 1:t:8:8 3:g:0:me 1:c:0:0 2:v0:0:-1 2:c:0:1 2:g:me:0 2:w0:5:7 2:v0:-1:1 2:o0:me:0 2:t:8:0"
	noTicket := "1:c:0:0 1:t:0:0 3:o0:0:me 1:v0:0:0 1:t:0:0 3:g:0:me 1:c:0:0 2:v0:0:-1 2:c:0:1 2:g:me:0 2:w0:5:7 2:v0:-1:1 2:o0:me:0 2:t:0:0"
	hold := []api.Ins{set(0, 1), write(0, 0), write(1, 0)}
	seven := []api.Ins{set(1, 7), write(0, 1)}
	return []scene{
		{"no job", config(1, 1, 0, 10), []int{5}, nil, "", []int{5}},
		{"no code", config(1, 1, 0, 10), []int{5}, [][]api.Ins{nil}, quick, []int{5}},
		{"Stop", config(1, 1, 0, 10), []int{5}, [][]api.Ins{{ins(api.Stop, 0, 0, 0), write(0, 0)}}, quick, []int{5}},
		{"Quit", config(1, 1, 0, 10), []int{5}, [][]api.Ins{{ins(api.Quit, 0, 0, 0), write(0, 0)}}, quick, []int{5}},
		{"a fault", config(1, 1, 0, 10), []int{5}, [][]api.Ins{{ins(-1, 0, 0, 0), write(0, 0)}}, quick, []int{5}},
		{"no fuel", config(1, 1, 0, 40), []int{5}, [][]api.Ins{{ins(api.Jump, 0, 0, 0)}}, quick, []int{5}},
		{"no word", config(1, 1, 0, 10), []int{5}, [][]api.Ins{{set(0, 1), read(0, 0)}}, quick, []int{5}},
		{"reads alone", config(3, 2, 1, 10), []int{3, 4, 5}, [][]api.Ins{{read(3, 0), read(3, 0), set(1, 2), read(3, 1), set(1, 1), read(3, 1)}}, readTwice, []int{3, 4, 5}},
		{"a ticket at the first stripe", config(1, 1, 1, 10), []int{5}, [][]api.Ins{seven}, writeOnce, []int{7}},
		{"a ticket for each job", config(1, 1, 1, 2), []int{5}, [][]api.Ins{seven, nil, seven}, writeOnce + " 1:c:1:1 2:t:0:0 1:c:1:1 " + writeAgain, []int{7}},
		{"a ticket at no stripe", config(1, 1, 0, 10), []int{5}, [][]api.Ins{seven}, noTicket, []int{7}},
		{"a ticket at more stripes", config(1, 8, 2, 10), []int{5}, [][]api.Ins{seven}, noTicket, []int{7}},
		{"more stripes than are held count", config(1, 1, 8, 10), []int{5}, [][]api.Ins{seven}, noTicket, []int{7}},
		{"a long code", config(8, 3, 2, 40), eight, [][]api.Ins{longCode()}, longWant, []int{10, 50, 4, 13, 51, 15, 16, 17}},
		{"given up with two stripes", config(2, 2, 2, 10), []int{3, 4}, [][]api.Ins{append(slices.Clone(hold), ins(api.Quit, 0, 0, 0))}, twoHeld, []int{3, 4}},
		{"a fault with two stripes", config(2, 2, 2, 10), []int{3, 4}, [][]api.Ins{append(slices.Clone(hold), ins(9, 0, 0, 0))}, twoHeld, []int{3, 4}},
		{"no word with two stripes", config(2, 2, 2, 10), []int{3, 4}, [][]api.Ins{append(slices.Clone(hold), set(0, 2), write(0, 0))}, twoHeld, []int{3, 4}},
		{"no fuel with two stripes", config(2, 2, 2, 3), []int{3, 4}, [][]api.Ins{append(slices.Clone(hold), set(0, 2))}, twoHeld, []int{3, 4}},
	}
}

// Each scene with one thread, and with four where one alone has jobs.
func TestScenes(t *testing.T) {
	for _, sc := range scenes() {
		for _, who := range [][2]int{{1, 0}, {4, 0}, {4, 3}, {2, 1}} {
			s := sc.setup(who[0], who[1])
			want := append(sc.accesses(s.Config, who[1]), api.Access{}, api.Access{})
			cells := cellsBehind(s, want)
			what := fmt.Sprintf("%s, thread %d of %d", sc.what, who[1], who[0])
			wantPlay(t, what, s, times(len(want), who[1]), text(want), cells)
			if words := cells[len(cells)-len(sc.words):]; !slices.Equal(words, sc.words) {
				t.Errorf("P6: %s: words %v, want %v", what, words, sc.words)
			}
		}
	}
}

// The cells behind every one of the first picks, in the midst of an attempt too.
func TestCellsInTheMidst(t *testing.T) {
	for _, sc := range scenes() {
		for _, who := range [][2]int{{1, 0}, {4, 0}, {4, 2}} {
			s := sc.setup(who[0], who[1])
			want := sc.accesses(s.Config, who[1])
			for n := 0; n <= len(want); n++ {
				what := fmt.Sprintf("%s, thread %d of %d, %d picks", sc.what, who[1], who[0], n)
				wantPlay(t, what, s, times(n, who[1]), text(want[:n]), cellsBehind(s, want[:n]))
			}
		}
	}
	s := api.Setup{Config: config(2, 2, 1, 10), Mem: []int{8, 9}, Jobs: []api.Job{{Thread: 2, Code: []api.Ins{set(0, 1), write(0, 0)}}}}
	s.Config.Threads = 3
	for n, want := range map[int][]int{
		0:  {0, 0, 0, 0, 0, 0, 0, 0, 0, 0, 8, 9},
		3:  {0, 0, 0, 0, 0, 0, 3, 0, 0, 0, 8, 9},
		6:  {0, 1, 0, 0, 0, 0, 3, 0, 0, 8, 8, 9},
		10: {0, 1, 3, 0, -1, 0, 3, 0, 0, 8, 8, 9},
		11: {1, 1, 3, 0, -1, 0, 3, 0, 0, 8, 8, 9},
		13: {1, 1, 0, 0, -1, 0, 3, 0, 0, 8, 8, 1},
		14: {1, 1, 0, 0, 1, 0, 3, 0, 0, 8, 8, 1},
		15: {1, 1, 0, 0, 1, 0, 0, 0, 0, 8, 8, 1},
		16: {1, 1, 0, 0, 1, 0, 0, 0, 0, 0, 8, 1},
	} {
		c, e := Cells(s, times(n, 2))
		if e != api.OK || !slices.Equal(c, want) {
			t.Errorf("P6: behind %d picks: %v, %d, want %v", n, c, e, want)
		}
	}
}

// Picks of a thread without a job, and of none, make no access and change nothing, wherever they stand.
func TestPicksOfOthers(t *testing.T) {
	none := []int{0, 2, 3, 4, 5, -1, math.MinInt, math.MaxInt, 1 << 32, 1<<32 + 1, -1 << 32}
	for _, sc := range scenes() {
		s := sc.setup(4, 1)
		own := sc.accesses(s.Config, 1)
		var picks []api.Pick
		var want []api.Access
		for i, a := range own {
			for n := 0; n <= i%3; n++ {
				picks = append(picks, api.Pick{Thread: none[(i+n)%len(none)], Draw: i - 3})
				want = append(want, api.Access{})
			}
			picks = append(picks, api.Pick{Thread: 1})
			want = append(want, a)
		}
		wantPlay(t, sc.what+", with others", s, picks, text(want), cellsBehind(s, want))
	}
}

// What a thread draws counts for its rests alone, and a single thread never rests.
func TestDrawsOfOneThread(t *testing.T) {
	for _, sc := range scenes() {
		s := sc.setup(1, 0)
		s.Config.Cap = 8
		want := sc.accesses(s.Config, 0)
		picks := times(len(want), 0)
		for i := range picks {
			picks[i].Draw = []int{1, -1, 5, 7, math.MaxInt, math.MinInt}[i%6]
		}
		wantPlay(t, sc.what+", with draws", s, picks, text(want), cellsBehind(s, want))
	}
}

// Jobs of one thread come in the order of the list, also with jobs of others in between.
func TestOrderOfJobs(t *testing.T) {
	s := api.Setup{Config: soloConfig(1, 10), Mem: []int{5}}
	s.Config.Threads = 2
	quits := []api.Ins{ins(api.Quit, 0, 0, 0)}
	s.Jobs = []api.Job{{Thread: 1, Code: quits}, {Thread: 0, Code: []api.Ins{read(1, 0)}}, {Thread: 1, Code: []api.Ins{read(1, 0)}}, {Thread: 0, Code: quits}}
	picks := append(times(8, 0), times(8, 1)...)
	reads := "1:0:0:0 1:3:0:0 1:7:5:5 1:3:0:0 "
	want := reads + "2:5:0:0 1:0:0:0 2:5:0:0 - 1:0:0:0 2:6:0:0 " + reads + "2:6:0:0 -"
	wantPlay(t, "two jobs of each", s, picks, want, []int{0, 0, 0, 0, 0, 0, 0, 5})
}

func TestPlayErrors(t *testing.T) {
	for n := 0; n < setsOfErrors; n++ {
		s, want := faultySetup(n)
		l, e := Play(s, times(3, 1))
		if e != want || (e != api.OK && len(l) != 0) || (e == api.OK && len(l) != 3) {
			t.Errorf("P5: errors %05b: Play answers %v, %d, want %d", n, l, e, want)
		}
		c, e := Cells(s, times(3, 1))
		if e != want || (e != api.OK && len(c) != 0) || (e == api.OK && len(c) != 3+4+2+3) {
			t.Errorf("P6: errors %05b: Cells answers %v, %d, want %d", n, c, e, want)
		}
	}
}

// What a Read and the gate ask of a thread while another one commits.
func TestAnotherCommits(t *testing.T) {
	s := api.Setup{Config: soloConfig(1, 10), Mem: []int{5}, Jobs: []api.Job{{Code: oneMore()}, {Thread: 1, Code: []api.Ins{read(1, 0)}}}}
	s.Config.Threads = 2
	ahead := "1:0:0:0 1:3:0:0 1:7:5:5 1:3:0:0 1:5:0:0 3:4:0:1 1:3:0:0 1:5:0:0 3:2:0:1 1:0:0:0 2:3:0:-1 2:0:0:1 "
	behind := "2:2:1:0 2:7:5:6 2:3:-1:1 2:4:1:0 2:5:0:0 "
	shut := slices.Concat(times(12, 0), times(4, 1), times(5, 0), times(5, 1))
	want := ahead + "1:0:1:1 1:3:-1:-1 1:3:-1:-1 1:3:-1:-1 " + behind + "1:3:1:1 1:7:6:6 1:3:1:1 2:6:0:0 -"
	wantPlay(t, "a Read while its stripe is shut", s, shut, want, []int{1, 0, 0, 1, 0, 0, 0, 6})
	changed := slices.Concat(times(2, 1), times(17, 0), times(4, 1))
	want = "1:0:0:0 1:3:0:0 " + ahead + behind + "1:7:6:6 1:3:1:1 1:3:1:1 1:7:6:6"
	wantPlay(t, "a Read whose version changed", s, changed, want, []int{1, 0, 0, 1, 0, 0, 0, 6})
	s = api.Setup{Config: config(2, 2, 0, 10), Mem: []int{5, 6}, Jobs: []api.Job{{Code: []api.Ins{write(0, 1)}}, {Thread: 1, Code: []api.Ins{set(0, 1), write(0, 0)}}}}
	s.Config.Threads = 2
	gate := slices.Concat(times(4, 1), times(6, 0), times(3, 1), times(4, 0), times(2, 1))
	want = "1:0:0:0 1:8:0:0 3:6:0:2 1:4:0:0 1:0:0:0 1:7:0:0 3:5:0:1 1:3:0:0 1:7:0:0 3:2:0:1 1:8:0:0 3:2:1:1 3:2:1:1 1:0:0:0 2:3:0:-1 2:0:0:1 2:2:1:0 3:2:0:2 1:0:1:1"
	wantPlay(t, "a commit while another is in the gate", s, gate, want, []int{1, 0, 2, -1, 0, 1, 2, 0, 0, 5, 6})
}
