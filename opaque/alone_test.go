package opaque

import (
	"math"
	"slices"
	"testing"

	"opaque/api"
)

func ins(op, a, b, c int) api.Ins { return api.Ins{Op: op, A: a, B: b, C: c} }

func soloConfig(words int, fuel int) api.Config {
	return api.Config{Threads: 1, Words: words, Stripes: 1, Fuel: fuel}
}

// wantAlone runs a code and compares everything that comes out.
func wantAlone(t *testing.T, what string, fuel int, mem []int, code []api.Ins, fate int, regs [4]int, words []int) {
	t.Helper()
	r, w, e := Alone(soloConfig(len(mem), fuel), mem, code)
	if e != api.OK {
		t.Errorf("P4: %s: error %d", what, e)
		return
	}
	if r.Fate != fate || r.Regs != regs {
		t.Errorf("P4: %s: fate %d, registers %v, want %d, %v", what, r.Fate, r.Regs, fate, regs)
	}
	if !slices.Equal(w, words) {
		t.Errorf("P4: %s: words %v, want %v", what, w, words)
	}
}

func oneMore() []api.Ins {
	return []api.Ins{ins(api.Read, 1, 0, 0), ins(api.Set, 2, 1, 0), ins(api.Add, 1, 1, 2), ins(api.Write, 0, 1, 0)}
}

func TestAloneExamples(t *testing.T) {
	wantAlone(t, "example 3", 10, []int{5}, oneMore(), api.Done, [4]int{0, 6, 1, 0}, []int{6})
	wantAlone(t, "example 3, Fuel 3", 3, []int{5}, oneMore(), api.Spent, [4]int{0, 6, 1, 0}, []int{5})
	wantAlone(t, "example 3, Fuel 2", 2, []int{5}, oneMore(), api.Spent, [4]int{0, 5, 1, 0}, []int{5})
	wantAlone(t, "example 4", 10, []int{5}, []api.Ins{ins(api.Set, 0, 1, 0), ins(api.Write, 0, 0, 0)}, api.Broke, [4]int{1, 0, 0, 0}, []int{5})
	wantAlone(t, "example 4, Quit", 10, []int{5}, []api.Ins{{Op: api.Quit}}, api.Left, [4]int{}, []int{5})
	wantAlone(t, "example 4, no code", 10, []int{5}, nil, api.Done, [4]int{}, []int{5})
	wantAlone(t, "example 4, Jump", 40, []int{5}, []api.Ins{{Op: api.Jump}}, api.Spent, [4]int{}, []int{5})
	wantAlone(t, "example 4, op 9", 10, []int{5}, []api.Ins{{Op: 9}}, api.Broke, [4]int{}, []int{5})
	five := []api.Ins{ins(api.Set, 0, 3, 0), ins(api.Sub, 1, 1, 0), ins(api.Add, 2, 1, 0), ins(api.Less, 0, 1, 5), {Op: api.Quit}}
	for words := 1; words <= 8; words++ {
		mem := []int{9, 8, 7, 6, 5, 4, 3, 65535}[:words]
		wantAlone(t, "example 5", 10, mem, five, api.Done, [4]int{3, 65533, 0, 0}, mem)
	}
}

// The looks ahead of an instruction: the end, then the fuel, then the fault.
func TestOrderOfLooks(t *testing.T) {
	sets := []api.Ins{ins(api.Set, 0, 1, 0), ins(api.Set, 1, 2, 0)}
	wantAlone(t, "the end with no fuel left", 2, []int{5}, sets, api.Done, [4]int{1, 2, 0, 0}, []int{5})
	for op := -1; op <= 9; op++ {
		code := append(slices.Clone(sets), api.Ins{Op: op, A: -1, B: -1, C: -1})
		wantAlone(t, "no fuel left, whatever follows", 2, []int{5}, code, api.Spent, [4]int{1, 2, 0, 0}, []int{5})
	}
	code := append(slices.Clone(sets), api.Ins{Op: 9})
	wantAlone(t, "a fault with the last fuel", 3, []int{5}, code, api.Broke, [4]int{1, 2, 0, 0}, []int{5})
	code[2].Op = api.Stop
	wantAlone(t, "Stop with the last fuel", 3, []int{5}, code, api.Done, [4]int{1, 2, 0, 0}, []int{5})
	code[2].Op = api.Quit
	wantAlone(t, "Quit with the last fuel", 3, []int{5}, code, api.Left, [4]int{1, 2, 0, 0}, []int{5})
}

// Every kind of instruction costs one of the fuel, each time that it is begun.
func TestFuelOfEachKind(t *testing.T) {
	for _, ins := range []api.Ins{{Op: api.Set}, {Op: api.Add}, {Op: api.Sub}, {Op: api.Less}, {Op: api.Read}, {Op: api.Write}} {
		for length := 1; length <= 20; length++ {
			code := slices.Repeat([]api.Ins{ins}, length)
			wantAlone(t, "just enough fuel", length, []int{0}, code, api.Done, [4]int{}, []int{0})
			if length > 1 {
				wantAlone(t, "one too little", length-1, []int{0}, code, api.Spent, [4]int{}, []int{0})
			}
		}
	}
	// Behind the Set a round is two instructions, and the first of them counts.
	count := []api.Ins{ins(api.Set, 1, 1, 0), ins(api.Add, 0, 0, 1), ins(api.Jump, 0, 0, 1)}
	for fuel := 1; fuel <= 40; fuel++ {
		wantAlone(t, "a loop", fuel, []int{5}, count, api.Spent, [4]int{fuel / 2, 1, 0, 0}, []int{5})
	}
}

func TestSums(t *testing.T) {
	values := []int{0, 1, 2, 32767, 32768, 65534, 65535}
	for _, a := range values {
		for _, b := range values {
			code := []api.Ins{ins(api.Set, 0, a, 0), ins(api.Set, 1, b, 0), ins(api.Add, 2, 0, 1), ins(api.Sub, 3, 0, 1)}
			wantAlone(t, "Add and Sub", 40, []int{5}, code, api.Done, [4]int{a, b, (a + b) % 65536, (a - b + 65536) % 65536}, []int{5})
			code = []api.Ins{ins(api.Set, 0, a, 0), ins(api.Set, 1, b, 0), ins(api.Less, 0, 1, 4), {Op: api.Quit}, {Op: api.Stop}}
			fate := api.Left
			if a < b {
				fate = api.Done
			}
			wantAlone(t, "Less", 40, []int{5}, code, fate, [4]int{a, b, 0, 0}, []int{5})
		}
	}
	code := []api.Ins{ins(api.Set, 3, 40000, 0), ins(api.Add, 3, 3, 3), ins(api.Sub, 3, 3, 3), ins(api.Set, 2, 1, 0), ins(api.Sub, 2, 3, 2)}
	wantAlone(t, "a register on both sides", 40, []int{5}, code, api.Done, [4]int{0, 0, 65535, 0}, []int{5})
}

func TestJumps(t *testing.T) {
	code := []api.Ins{ins(api.Jump, -9, 99, 3), ins(api.Set, 0, 1, 0), {Op: api.Stop}, ins(api.Set, 1, 1, 0), ins(api.Less, 0, 1, 1), {Op: api.Quit}}
	wantAlone(t, "there and back", 40, []int{5}, code, api.Done, [4]int{1, 1, 0, 0}, []int{5})
	for length := 1; length <= 20; length++ {
		code = make([]api.Ins, length)
		code[0] = api.Ins{Op: api.Jump, C: length}
		wantAlone(t, "Jump behind the last one", 1, []int{5}, code, api.Done, [4]int{}, []int{5})
		code[0].C = length + 1
		wantAlone(t, "Jump too far", 1, []int{5}, code, api.Broke, [4]int{}, []int{5})
		code[0] = api.Ins{Op: api.Less, C: length + 1}
		wantAlone(t, "Less too far, though not taken", 1, []int{5}, code, api.Broke, [4]int{}, []int{5})
	}
}

func TestWords(t *testing.T) {
	mem := []int{11, 12, 13, 14, 15, 16, 17, 18}
	for addr := 0; addr < 8; addr++ {
		want := slices.Clone(mem)
		read := []api.Ins{ins(api.Set, 1, addr, 0), ins(api.Read, 2, 1, 0)}
		wantAlone(t, "Read", 40, mem, read, api.Done, [4]int{0, addr, 11 + addr, 0}, want)
		want[addr] = 65535
		write := []api.Ins{ins(api.Set, 1, addr, 0), ins(api.Set, 2, 65535, 0), ins(api.Write, 1, 2, 0), ins(api.Read, 3, 1, 0)}
		wantAlone(t, "Write", 40, mem, write, api.Done, [4]int{0, addr, 65535, 65535}, want)
	}
	code := []api.Ins{ins(api.Set, 3, 1, 0), ins(api.Read, 3, 3, 0), ins(api.Write, 0, 3, 0), ins(api.Read, 0, 0, 0)}
	wantAlone(t, "a register for address and value", 40, mem[:2], code, api.Done, [4]int{12, 0, 0, 12}, []int{12, 12})
	code = []api.Ins{ins(api.Set, 1, 1, 0), ins(api.Write, 0, 1, 0), ins(api.Set, 1, 2, 0), ins(api.Write, 0, 1, 0)}
	wantAlone(t, "the last Write stays", 40, mem[:2], code, api.Done, [4]int{0, 2, 0, 0}, []int{2, 12})
}

func TestAddressesThatAreNoWords(t *testing.T) {
	for words := 1; words <= 8; words++ {
		mem := make([]int, words)
		for _, addr := range []int{words - 1, words, words + 1, 8, 65535} {
			fate := api.Broke
			if addr < words {
				fate = api.Done
			}
			read := []api.Ins{ins(api.Set, 1, addr, 0), ins(api.Read, 2, 1, 0)}
			wantAlone(t, "Read", 40, mem, read, fate, [4]int{0, addr, 0, 0}, mem)
			write := []api.Ins{ins(api.Set, 1, addr, 0), ins(api.Write, 1, 0, 0)}
			wantAlone(t, "Write", 40, mem, write, fate, [4]int{0, addr, 0, 0}, mem)
		}
	}
}

// Whatever was written is kept if the code is Done, and in no other case.
func TestOnlyDoneWrites(t *testing.T) {
	writes := []api.Ins{ins(api.Set, 0, 1, 0), ins(api.Set, 1, 9, 0), ins(api.Write, 0, 1, 0), ins(api.Write, 2, 1, 0), ins(api.Read, 3, 0, 0)}
	regs := [4]int{1, 9, 0, 9}
	old := []int{5, 6}
	wantAlone(t, "the end", 5, old, writes, api.Done, regs, []int{9, 9})
	wantAlone(t, "Stop", 6, old, append(slices.Clone(writes), api.Ins{Op: api.Stop}), api.Done, regs, []int{9, 9})
	wantAlone(t, "Quit", 6, old, append(slices.Clone(writes), api.Ins{Op: api.Quit}), api.Left, regs, old)
	wantAlone(t, "a fault", 6, old, append(slices.Clone(writes), api.Ins{Op: 9}), api.Broke, regs, old)
	wantAlone(t, "no word", 6, old, append(slices.Clone(writes), api.Ins{Op: api.Write, A: 1}), api.Broke, regs, old)
	wantAlone(t, "no fuel", 5, old, append(slices.Clone(writes), api.Ins{Op: api.Stop}), api.Spent, regs, old)
}

// formedByTable is the table's column "well formed if", for a code of one instruction.
func formedByTable(ins api.Ins) bool {
	a := ins.A >= 0 && ins.A <= 3
	b := ins.B >= 0 && ins.B <= 3
	c := ins.C >= 0 && ins.C <= 3
	place := ins.C == 0 || ins.C == 1
	value := ins.B >= 0 && ins.B <= 65535
	return []bool{true, true, a && value, a && b && c, a && b && c, place, a && b && place, a && b, a && b}[ins.Op]
}

func TestWellFormed(t *testing.T) {
	numbers := []int{math.MinInt, -65536, -1, 0, 1, 2, 3, 4, 5, 20, 65535, 65536, math.MaxInt}
	for _, op := range []int{math.MinInt, -7, -1, 9, 10, 16, 256, math.MaxInt} {
		wantAlone(t, "no such Op", 1, []int{5}, []api.Ins{{Op: op}}, api.Broke, [4]int{}, []int{5})
	}
	for n := 0; n < 9*13*13*13; n++ {
		ins := api.Ins{Op: n / 2197, A: numbers[n/169%13], B: numbers[n/13%13], C: numbers[n%13]}
		r, _, e := Alone(soloConfig(1, 1), []int{0}, []api.Ins{ins})
		if e != api.OK || (r.Fate != api.Broke) != formedByTable(ins) {
			t.Errorf("P4: %v: error %d, fate %d", ins, e, r.Fate)
		}
	}
}
