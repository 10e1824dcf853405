package opaque

import (
	"math"
	"slices"
	"testing"

	"opaque/api"
)

// dice gives the same numbers each time, so that a failure comes again.
type dice struct {
	state uint64
}

func (d *dice) roll(sides int) int {
	d.state = d.state*6364136223846793005 + 1442695040888963407
	return int(d.state>>33) % sides
}

// anyNumber is mostly small, at times beside a bound or as far out as can be.
func (d *dice) anyNumber() int {
	far := []int{math.MinInt, -1, 20, 40, 41, 65535, 65536, math.MaxInt}
	if d.roll(12) == 0 {
		return far[d.roll(len(far))]
	}
	return d.roll(9)
}

func (d *dice) code() []api.Ins {
	code := make([]api.Ins, d.roll(23))
	for i := range code {
		code[i] = api.Ins{Op: d.anyNumber(), A: d.roll(4), B: d.roll(4), C: d.roll(4)}
		if d.roll(8) == 0 {
			code[i] = api.Ins{Op: d.anyNumber(), A: d.anyNumber(), B: d.anyNumber(), C: d.anyNumber()}
		}
	}
	return code
}

func (d *dice) config() api.Config {
	if d.roll(3) > 0 {
		return soloConfig(1+d.roll(8), 1+d.roll(40))
	}
	return api.Config{
		Threads: d.anyNumber(), Words: d.anyNumber(), Stripes: d.anyNumber(),
		Greedy: d.anyNumber(), Retry: d.anyNumber(), Cap: d.anyNumber(), Fuel: d.anyNumber(),
	}
}

func (d *dice) mem(words int) []int {
	length := d.roll(10)
	if words >= 0 && words < 10 && d.roll(8) > 0 {
		length = words
	}
	mem := make([]int, length)
	for i := range mem {
		mem[i] = d.roll(65536)
		if d.roll(20) == 0 {
			mem[i] = d.anyNumber()
		}
	}
	return mem
}

// Whatever is handed in: an answer that has the form of one, and the same one again.
func TestAnythingHandedIn(t *testing.T) {
	d := dice{state: 1}
	seen := [6]int{}
	for n := 0; n < 50000; n++ {
		c := d.config()
		mem := d.mem(c.Words)
		code := d.code()
		memBefore, codeBefore := slices.Clone(mem), slices.Clone(code)
		r, w, e := Alone(c, mem, code)
		if e != api.OK && (r != api.Result{} || len(w) != 0) {
			t.Fatalf("P1: %v %v %v: error %d with %v, %v", c, mem, code, e, r, w)
		}
		if e == api.OK && (r.Fate < api.Done || r.Fate > api.Spent || len(w) != len(mem)) {
			t.Fatalf("P4: %v %v %v: %v, %v", c, mem, code, r, w)
		}
		if !slices.Equal(mem, memBefore) || !slices.Equal(code, codeBefore) {
			t.Fatalf("P2: %v %v %v: written into", c, memBefore, codeBefore)
		}
		again, wAgain, eAgain := Alone(c, mem, code)
		if again != r || eAgain != e || !slices.Equal(w, wAgain) {
			t.Fatalf("P2: %v %v %v: another answer the second time", c, mem, code)
		}
		jobs := []api.Job{{Thread: 0, Code: code}}
		if Check(api.Setup{Config: c, Mem: mem, Jobs: jobs}) != e {
			t.Fatalf("P3: %v %v %v: Check and Alone differ", c, mem, code)
		}
		seen[r.Fate]++
	}
	for fate := api.Open; fate <= api.Spent; fate++ {
		if seen[fate] < 500 {
			t.Errorf("the numbers came too seldom to fate %d: %v", fate, seen)
		}
	}
}

// Long lists are errors, not long work.
func TestLongLists(t *testing.T) {
	s := goodSetup()
	s.Jobs[0].Code = make([]api.Ins, 1<<20)
	if e := Check(s); e != api.ErrCode {
		t.Errorf("P3: a very long code: %d", e)
	}
	s.Jobs = make([]api.Job, 1<<20)
	if e := Check(s); e != api.ErrJobs {
		t.Errorf("P3: very many jobs: %d", e)
	}
	s.Mem = make([]int, 1<<20)
	if e := Check(s); e != api.ErrMemory {
		t.Errorf("P3: very many words: %d", e)
	}
}

// With an error nothing comes out but the error.
func TestErrorsComeAlone(t *testing.T) {
	bad := goodConfig()
	bad.Cap = 9
	for _, c := range []struct {
		config api.Config
		mem    []int
		code   []api.Ins
		want   api.Errno
	}{
		{bad, []int{1, 2, 3}, oneMore(), api.ErrConfig},
		{bad, nil, make([]api.Ins, 21), api.ErrConfig},
		{goodConfig(), []int{1, 2, -1}, oneMore(), api.ErrMemory},
		{goodConfig(), []int{1, 2}, make([]api.Ins, 21), api.ErrMemory},
		{goodConfig(), []int{1, 2, 3}, make([]api.Ins, 21), api.ErrCode},
	} {
		r, w, e := Alone(c.config, c.mem, c.code)
		if e != c.want || r != (api.Result{}) || len(w) != 0 {
			t.Errorf("P1: %v %v: %v, %v, %d, want error %d alone", c.config, c.mem, r, w, e, c.want)
		}
	}
}

// codesOfEachFate write into word 0 and come to each fate.
func codesOfEachFate() [][]api.Ins {
	write := []api.Ins{ins(api.Set, 1, 77, 0), ins(api.Write, 0, 1, 0)}
	return [][]api.Ins{
		nil,
		write,
		append(slices.Clone(write), api.Ins{Op: api.Quit}),
		append(slices.Clone(write), api.Ins{Op: 9}),
		append(slices.Clone(write), api.Ins{Op: api.Jump, C: 2}),
	}
}

// Neither the lists that are handed in nor their spare room is written into.
func TestSpareRoomStays(t *testing.T) {
	for _, code := range codesOfEachFate() {
		room := []int{5, 6, -8, -9}
		codeRoom := append(slices.Clone(code), api.Ins{Op: 21}, api.Ins{Op: 22})
		codeBefore := slices.Clone(codeRoom)
		jobRoom := []api.Job{{Thread: 0, Code: codeRoom[:len(code)]}, {Thread: 1}, {Thread: 31}}
		Alone(soloConfig(2, 9), room[:2], codeRoom[:len(code)])
		e := Check(api.Setup{Config: soloConfig(2, 9), Mem: room[:2], Jobs: jobRoom[:1]})
		if e != api.OK {
			t.Errorf("P2: what stands behind the lists counts: error %d", e)
		}
		if !slices.Equal(room, []int{5, 6, -8, -9}) {
			t.Errorf("P2: %v: the words handed in became %v", code, room)
		}
		if !slices.Equal(codeRoom, codeBefore) {
			t.Errorf("P2: %v: the code handed in became %v", codeBefore, codeRoom)
		}
		if jobRoom[0].Thread != 0 || jobRoom[1].Thread != 1 || jobRoom[2].Thread != 31 {
			t.Errorf("P2: %v: the jobs handed in became %v", code, jobRoom)
		}
	}
}

// Whoever writes into a list that came out, or behind it, changes no other list.
func TestListsAreTheirOwn(t *testing.T) {
	for _, code := range codesOfEachFate() {
		room := []int{5, 6, -8, -9}
		_, first, _ := Alone(soloConfig(2, 9), room[:2], code)
		_, second, _ := Alone(soloConfig(2, 9), room[:2], code)
		want := slices.Clone(second)
		first = first[:cap(first)]
		for i := range first {
			first[i] = 1000 + i
		}
		if !slices.Equal(room, []int{5, 6, -8, -9}) {
			t.Errorf("P2: %v: writing into what came out made the words handed in %v", code, room)
		}
		if !slices.Equal(second, want) {
			t.Errorf("P2: %v: writing into what came out made another answer %v", code, second)
		}
		_, third, _ := Alone(soloConfig(2, 9), room[:2], code)
		if !slices.Equal(third, want) {
			t.Errorf("P2: %v: writing into what came out made the next answer %v", code, third)
		}
	}
}

// What a call answers does not hang on the calls made before it.
func TestCallsBeforeDoNotMatter(t *testing.T) {
	codes := codesOfEachFate()
	for _, before := range codes {
		for _, code := range codes {
			r, w, _ := Alone(soloConfig(2, 9), []int{5, 6}, code)
			Alone(soloConfig(1, 40), []int{9}, before)
			Check(api.Setup{})
			again, wAgain, _ := Alone(soloConfig(2, 9), []int{5, 6}, code)
			if r != again || !slices.Equal(w, wAgain) {
				t.Errorf("P2: %v behind %v: %v, %v, want %v, %v", code, before, again, wAgain, r, w)
			}
		}
	}
}
