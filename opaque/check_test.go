package opaque

import (
	"math"
	"testing"

	"opaque/api"
)

// farNumbers are out of the bounds of every number of a config.
var farNumbers = []int{math.MinInt, math.MinInt + 1, -65536, -2, -1, 41, 65536, math.MaxInt - 1, math.MaxInt}

func goodConfig() api.Config {
	return api.Config{Threads: 2, Words: 3, Stripes: 2, Greedy: 1, Retry: 1, Cap: 1, Fuel: 10}
}

func goodSetup() api.Setup {
	return api.Setup{
		Config: goodConfig(),
		Mem:    []int{0, 7, 65535},
		Jobs: []api.Job{
			{Thread: 1, Code: []api.Ins{{Op: api.Read}, {Op: api.Stop}}},
			{Thread: 0},
			{Thread: 1, Code: []api.Ins{{Op: math.MinInt, A: -1, B: math.MaxInt, C: 99}}},
		},
	}
}

// configField is one number of the config and its bounds.
type configField struct {
	name        string
	least, most int
	set         func(c *api.Config, n int)
}

func configFields() []configField {
	return []configField{
		{"Threads", 1, 4, func(c *api.Config, n int) { c.Threads = n }},
		{"Words", 1, 8, func(c *api.Config, n int) { c.Words = n }},
		{"Stripes", 1, 8, func(c *api.Config, n int) { c.Stripes = n }},
		{"Greedy", 0, 8, func(c *api.Config, n int) { c.Greedy = n }},
		{"Retry", 0, 4, func(c *api.Config, n int) { c.Retry = n }},
		{"Cap", 0, 8, func(c *api.Config, n int) { c.Cap = n }},
		{"Fuel", 1, 40, func(c *api.Config, n int) { c.Fuel = n }},
	}
}

// wantError compares both calls that look at a config and words.
func wantError(t *testing.T, what string, s api.Setup, want api.Errno) {
	t.Helper()
	if e := Check(s); e != want {
		t.Errorf("P3: %s: Check answers %d, want %d", what, e, want)
	}
	_, _, e := Alone(s.Config, s.Mem, nil)
	if e != want {
		t.Errorf("P4: %s: Alone answers %d, want %d", what, e, want)
	}
}

func TestConfigBounds(t *testing.T) {
	for _, f := range configFields() {
		for n := -3; n <= 50; n++ {
			s := api.Setup{Config: goodConfig()}
			f.set(&s.Config, n)
			want := api.OK
			if n < f.least || n > f.most {
				want = api.ErrConfig
			}
			if s.Config.Words >= 0 {
				s.Mem = make([]int, s.Config.Words)
			}
			wantError(t, f.name, s, want)
		}
		for _, n := range farNumbers {
			s := api.Setup{Config: goodConfig(), Mem: make([]int, 3)}
			f.set(&s.Config, n)
			wantError(t, f.name, s, api.ErrConfig)
		}
	}
	wantError(t, "nothing at all", api.Setup{}, api.ErrConfig)
}

func TestMemory(t *testing.T) {
	for words := 1; words <= 8; words++ {
		for length := 0; length <= 10; length++ {
			s := api.Setup{Config: goodConfig(), Mem: make([]int, length)}
			s.Config.Words = words
			want := api.OK
			if length != words {
				want = api.ErrMemory
			}
			wantError(t, "the count of words", s, want)
		}
	}
	for place := 0; place < 3; place++ {
		for _, n := range []int{0, 1, 41, 65534, 65535} {
			s := goodSetup()
			s.Mem[place] = n
			wantError(t, "a value", s, api.OK)
		}
		for _, n := range []int{math.MinInt, -65536, -1, 65536, 65537, math.MaxInt} {
			s := goodSetup()
			s.Mem[place] = n
			wantError(t, "no value", s, api.ErrMemory)
		}
	}
}

func TestJobs(t *testing.T) {
	if e := Check(goodSetup()); e != api.OK {
		t.Errorf("P3: a good setup: %d", e)
	}
	for count := 0; count <= 12; count++ {
		s := goodSetup()
		s.Jobs = make([]api.Job, count)
		want := api.OK
		if count > 8 {
			want = api.ErrJobs
		}
		if e := Check(s); e != want {
			t.Errorf("P3: %d jobs: %d, want %d", count, e, want)
		}
	}
	for threads := 1; threads <= 4; threads++ {
		for place := 0; place < 8; place++ {
			for _, n := range append([]int{0, 1, 2, 3, 4, 5}, farNumbers...) {
				s := goodSetup()
				s.Config.Threads = threads
				s.Jobs = make([]api.Job, 8)
				s.Jobs[place].Thread = n
				want := api.OK
				if n < 0 || n >= threads {
					want = api.ErrJobs
				}
				if e := Check(s); e != want {
					t.Errorf("P3: thread %d of %d: %d, want %d", n, threads, e, want)
				}
			}
		}
	}
}

func TestCodeLength(t *testing.T) {
	for length := 0; length <= 25; length++ {
		want := api.OK
		if length > 20 {
			want = api.ErrCode
		}
		for place := 0; place < 3; place++ {
			s := goodSetup()
			s.Jobs[place].Code = make([]api.Ins, length)
			if e := Check(s); e != want {
				t.Errorf("P3: %d instructions: %d, want %d", length, e, want)
			}
		}
		_, _, e := Alone(goodConfig(), make([]int, 3), make([]api.Ins, length))
		if e != want {
			t.Errorf("P4: %d instructions: %d, want %d", length, e, want)
		}
	}
}

// An instruction that is not well formed is no error of the setup.
func TestFaultsAreNoErrors(t *testing.T) {
	for _, n := range farNumbers {
		s := goodSetup()
		for op := -1; op <= 9; op++ {
			s.Jobs[0].Code = append(s.Jobs[0].Code, api.Ins{Op: op, A: n, B: n, C: n})
		}
		if e := Check(s); e != api.OK {
			t.Errorf("P3: instructions with %d: %d", n, e)
		}
	}
}

// setsOfErrors is how many setups faultySetup knows.
const setsOfErrors = 32

// faultySetup has the errors whose bits are set, and tells the one that is named first.
func faultySetup(set int) (api.Setup, api.Errno) {
	s := goodSetup()
	want := api.OK
	if set&16 != 0 {
		s.Jobs[0].Code = make([]api.Ins, 21)
		want = api.ErrCode
	}
	if set&8 != 0 {
		s.Jobs[2].Thread = 2
		want = api.ErrJobs
	}
	if set&4 != 0 {
		s.Jobs = append(s.Jobs, make([]api.Job, 6)...)
		want = api.ErrJobs
	}
	if set&2 != 0 {
		s.Mem[2] = 65536
		want = api.ErrMemory
	}
	if set&1 != 0 {
		s.Config.Fuel = 0
		want = api.ErrConfig
	}
	return s, want
}

// Every set of errors at once: the one named first is the answer.
func TestFirstErrorCounts(t *testing.T) {
	for set := 0; set < setsOfErrors; set++ {
		s, want := faultySetup(set)
		if e := Check(s); e != want {
			t.Errorf("P1: errors %05b: Check answers %d, want %d", set, e, want)
		}
	}
}
