package opaque

import (
	"math"
	"slices"
	"testing"

	"opaque/api"
)

// isAhead is the document's AHEAD.
func isAhead(h []api.Attempt, i, j int) bool {
	place := func(a api.Attempt) [2]int {
		if a.Stamp > 0 {
			return [2]int{a.Stamp, 0}
		}
		return [2]int{a.Valid, 1}
	}
	p, q := place(h[i]), place(h[j])
	return p[0] < q[0] || p[0] == q[0] && p[1] < q[1] || p == q && i < j
}

// lastWrite is the value of the last Write note to this address.
func lastWrite(notes []api.Note, addr int) (value int, is bool) {
	for _, n := range notes {
		if n.Op == api.Write && n.Addr == addr {
			value, is = n.Value, true
		}
	}
	return value, is
}

// dueValue is what the note k of attempt i has to have read, of an address that is a word's.
func dueValue(mem []int, h []api.Attempt, i, k int) int {
	addr := h[i].Notes[k].Addr
	if value, is := lastWrite(h[i].Notes[:k], addr); is {
		return value
	}
	var writers []int
	for j, a := range h {
		if _, is := lastWrite(a.Notes, addr); is && a.Stamp > 0 && isAhead(h, j, i) {
			writers = append(writers, j)
		}
	}
	for _, j := range writers {
		last := true
		for _, other := range writers {
			last = last && (other == j || isAhead(h, other, j))
		}
		if last {
			value, _ := lastWrite(h[j].Notes, addr)
			return value
		}
	}
	return mem[addr]
}

// unsoundBy tells which of the three conditions an attempt does not meet.
func unsoundBy(mem []int, h []api.Attempt, i int) (by [3]bool) {
	for j := range i {
		if h[i].Stamp > 0 && h[j].Stamp == h[i].Stamp {
			by[0] = true
		}
	}
	for j, a := range h {
		if j != i && a.End > 0 && a.End < h[i].Start && !isAhead(h, j, i) {
			by[1] = true
		}
	}
	for k, n := range h[i].Notes {
		if n.Op == api.Read && (n.Addr < 0 || n.Addr >= len(mem) || n.Value != dueValue(mem, h, i, k)) {
			by[2] = true
		}
	}
	return by
}

// judgedPlainly is Judge as the document words it, attempt by attempt.
func judgedPlainly(mem []int, h []api.Attempt) int {
	for i := range h {
		if unsoundBy(mem, h, i) != [3]bool{} {
			return i
		}
	}
	return -1
}

func noteRead(addr, value int) api.Note  { return api.Note{Op: api.Read, Addr: addr, Value: value} }
func noteWrite(addr, value int) api.Note { return api.Note{Op: api.Write, Addr: addr, Value: value} }

// stamped and valid are attempts that have nothing but that and notes.
func stamped(stamp int, notes ...api.Note) api.Attempt {
	return api.Attempt{Stamp: stamp, Notes: notes}
}
func valid(time int, notes ...api.Note) api.Attempt { return api.Attempt{Valid: time, Notes: notes} }

// spanned is an attempt from a Start to an End.
func spanned(start, end, time, stamp int) api.Attempt {
	return api.Attempt{Start: start, End: end, Valid: time, Stamp: stamp}
}

type verdict struct {
	what string
	mem  []int
	h    []api.Attempt
	want int
}

func judgeAll(t *testing.T, verdicts []verdict) {
	t.Helper()
	for _, v := range verdicts {
		if n := Judge(v.mem, v.h); n != v.want {
			t.Errorf("P12: %s: %d, want %d", v.what, n, v.want)
		}
		if n := judgedPlainly(v.mem, v.h); n != v.want {
			t.Errorf("%s: the words say %d, the test %d", v.what, n, v.want)
		}
	}
}

func TestJudgeExample(t *testing.T) {
	two := []api.Attempt{{Start: 1, End: 17, Stamp: 1, Fate: api.Done, Notes: []api.Note{noteRead(0, 5), noteWrite(0, 6)}}}
	wrong := []api.Attempt{{Start: 1, End: 17, Stamp: 1, Fate: api.Done, Notes: []api.Note{noteRead(0, 6), noteWrite(0, 6)}}}
	judgeAll(t, []verdict{
		{"example 10", []int{5}, two, -1},
		{"example 10, another value", []int{5}, wrong, 0},
		{"example 10, no attempts", []int{5}, nil, -1},
		{"example 10, no attempts, a list", []int{5}, []api.Attempt{}, -1},
		{"example 10, stamps", []int{5}, []api.Attempt{stamped(1), stamped(1)}, 1},
		{"example 10, ended before", []int{5}, []api.Attempt{spanned(5, 6, 1, 0), spanned(1, 2, 2, 0)}, 0},
	})
}

func TestJudgeStamps(t *testing.T) {
	judgeAll(t, []verdict{
		{"not neighbours", nil, []api.Attempt{stamped(7), stamped(3), valid(9), stamped(7)}, 3},
		{"three alike", nil, []api.Attempt{stamped(2), stamped(2), stamped(2)}, 1},
		{"two pairs, the later stamp first", nil, []api.Attempt{stamped(9), stamped(1), stamped(9), stamped(1)}, 2},
		{"0", nil, []api.Attempt{stamped(0), stamped(0)}, -1},
		{"below 0", nil, []api.Attempt{stamped(-4), stamped(-4), stamped(math.MinInt), stamped(math.MinInt)}, -1},
		{"the greatest", nil, []api.Attempt{stamped(math.MaxInt), stamped(math.MaxInt)}, 1},
		{"a stamp and a valid time", nil, []api.Attempt{stamped(4), valid(4)}, -1},
		{"valid times alike", nil, []api.Attempt{valid(4), valid(4), valid(0), valid(-4), valid(-4)}, -1},
		{"a stamp below 0 is no place", []int{5}, []api.Attempt{{Stamp: -1, Valid: 3, Notes: []api.Note{noteRead(0, 8)}}, stamped(2, noteWrite(0, 8))}, -1},
		{"the first one's write is hidden by the second's", []int{5}, []api.Attempt{stamped(1, noteWrite(0, 8)), stamped(1, noteRead(0, 8), noteWrite(0, 9)), valid(1, noteRead(0, 9))}, 1},
	})
}

func TestJudgeTimes(t *testing.T) {
	judgeAll(t, []verdict{
		{"ended as it began", nil, []api.Attempt{spanned(2, 0, 1, 0), spanned(1, 2, 2, 0)}, -1},
		{"ended one before it began", nil, []api.Attempt{spanned(3, 0, 1, 0), spanned(1, 2, 2, 0)}, 0},
		{"not ended", nil, []api.Attempt{spanned(3, 0, 1, 0), spanned(1, 0, 2, 0)}, -1},
		{"an End below 0", nil, []api.Attempt{spanned(3, 0, 1, 0), spanned(1, -1, 2, 0), spanned(1, math.MinInt, 2, 0)}, -1},
		{"itself", nil, []api.Attempt{spanned(3, 1, 1, 0), spanned(9, 8, 2, 5)}, -1},
		{"a stamp behind its valid time", nil, []api.Attempt{spanned(3, 0, 1, 0), spanned(1, 2, 0, 2)}, 0},
		{"a stamp like its valid time", nil, []api.Attempt{spanned(3, 0, 1, 0), spanned(1, 2, 7, 1)}, -1},
		{"its own stamp like the other's valid time", nil, []api.Attempt{spanned(3, 0, 9, 1), spanned(1, 2, 1, 0)}, 0},
		{"its own stamp behind the other's", nil, []api.Attempt{spanned(3, 0, 0, 2), spanned(1, 2, 0, 1)}, -1},
		{"its own stamp ahead of the other's", nil, []api.Attempt{spanned(3, 0, 9, 1), spanned(1, 2, 0, 2)}, 0},
		{"one place, the other later in the list", nil, []api.Attempt{spanned(3, 0, 1, 0), spanned(1, 2, 1, 0)}, 0},
		{"one place, the other earlier in the list", nil, []api.Attempt{spanned(1, 2, 1, 0), spanned(3, 0, 1, 0)}, -1},
		{"one of many", nil, []api.Attempt{spanned(9, 12, 3, 0), spanned(9, 12, 4, 0), spanned(1, 9, 5, 0), spanned(1, 8, 2, 0), spanned(9, 12, 1, 0), spanned(9, 0, 9, 0)}, 4},
		{"the second in the order", nil, []api.Attempt{spanned(1, 9, 1, 0), spanned(5, 9, 2, 0), spanned(1, 4, 3, 0)}, 1},
		{"two behind, the later one ended sooner", nil, []api.Attempt{spanned(5, 9, 1, 0), spanned(1, 9, 2, 0), spanned(1, 4, 3, 0)}, 0},
		{"two behind, the earlier one ended sooner", nil, []api.Attempt{spanned(5, 9, 1, 0), spanned(1, 4, 2, 0), spanned(1, 9, 3, 0)}, 0},
		{"far numbers", nil, []api.Attempt{spanned(math.MaxInt, 0, math.MinInt, 0), spanned(math.MinInt, math.MaxInt-1, math.MaxInt, math.MaxInt)}, 0},
		{"far numbers that are sound", nil, []api.Attempt{spanned(math.MaxInt, 0, math.MaxInt, 0), spanned(math.MinInt, math.MaxInt-1, math.MinInt, math.MaxInt)}, -1},
		{"the farthest End", nil, []api.Attempt{spanned(math.MaxInt, 0, 1, 0), spanned(0, math.MaxInt, 2, 0)}, -1},
		{"a Start below 0", nil, []api.Attempt{spanned(-5, 0, 1, 0), spanned(-9, -7, 2, 0)}, -1},
	})
}

func TestJudgeReads(t *testing.T) {
	r, w := noteRead, noteWrite
	judgeAll(t, []verdict{
		{"the word at the beginning", []int{5, 6}, []api.Attempt{valid(0, r(0, 5), r(1, 6), r(0, 5))}, -1},
		{"another word's", []int{5, 6}, []api.Attempt{valid(0, r(0, 5), r(1, 5))}, 0},
		{"no words", nil, []api.Attempt{valid(0, r(0, 0))}, 0},
		{"behind the last word", []int{5}, []api.Attempt{valid(0), valid(0, r(1, 0))}, 1},
		{"far addresses", []int{5}, []api.Attempt{valid(0, w(math.MinInt, 1), w(math.MaxInt, 1), w(-1, 1)), valid(0, r(math.MaxInt, 1))}, 1},
		{"far addresses below", []int{5}, []api.Attempt{valid(0, w(math.MinInt, 1), r(math.MinInt, 1))}, 0},
		{"behind the last word, as written", []int{5}, []api.Attempt{stamped(1, w(1, 7)), valid(1, r(1, 7))}, 1},
		{"words that are no values", []int{-5, 1 << 40}, []api.Attempt{valid(0, r(0, -5), r(1, 1<<40), w(0, math.MinInt), r(0, math.MinInt))}, -1},
		{"its own last Write", []int{5}, []api.Attempt{valid(0, w(0, 6), w(0, 7), r(0, 7))}, -1},
		{"its own Write to another word", []int{5, 5}, []api.Attempt{valid(0, w(1, 6), r(0, 5), r(1, 6))}, -1},
		{"its own Write counts ahead of another's", []int{5}, []api.Attempt{stamped(1, w(0, 8)), stamped(2, r(0, 8), w(0, 9), r(0, 9))}, -1},
		{"what was undone", []int{5}, []api.Attempt{valid(0, w(0, 6), w(0, 7)), valid(0, r(0, 5))}, -1},
		{"what was undone behind what was not", []int{5}, []api.Attempt{stamped(1, w(0, 8)), valid(1, w(0, 6), w(0, 7)), valid(1, r(0, 8))}, -1},
		{"what was undone is not read", []int{5}, []api.Attempt{valid(0, w(0, 6), w(0, 7)), valid(0, r(0, 6))}, 1},
		{"an attempt that failed reads as well", []int{5}, []api.Attempt{stamped(1, w(0, 8)), {Valid: 1, Fate: api.Failed, Notes: []api.Note{r(0, 5)}}}, 1},
		{"fates do not count", []int{5}, []api.Attempt{{Stamp: 1, Fate: api.Failed, Notes: []api.Note{w(0, 8)}}, {Valid: 1, Fate: 77, Notes: []api.Note{r(0, 8)}}}, -1},
		{"threads and jobs do not count", []int{5}, []api.Attempt{{Thread: -9, Job: 99, Stamp: 1, Notes: []api.Note{w(0, 8)}}, {Thread: -9, Job: 99, Valid: 1, Notes: []api.Note{r(0, 8)}}}, -1},
		{"the last stamp ahead of its own", []int{5}, []api.Attempt{stamped(3, w(0, 3)), stamped(1, w(0, 1)), stamped(2, w(0, 2)), stamped(4, r(0, 3))}, -1},
		{"a stamp behind its own", []int{5}, []api.Attempt{stamped(3, w(0, 3)), stamped(1, w(0, 1)), stamped(2, r(0, 3))}, 2},
		{"its valid time does not count beside its stamp", []int{5}, []api.Attempt{{Valid: 9, Stamp: 2, Notes: []api.Note{r(0, 1)}}, stamped(1, w(0, 1)), stamped(3, w(0, 3))}, -1},
		{"the stamp of its valid time counts", []int{5}, []api.Attempt{valid(2, r(0, 2)), stamped(2, w(0, 2)), stamped(3, w(0, 3))}, -1},
		{"an unsound one's write counts", []int{5}, []api.Attempt{valid(1, r(0, 9)), stamped(1, r(0, 77), w(0, 9))}, 1},
		{"other notes", []int{5}, []api.Attempt{stamped(1, api.Note{Op: 0, Addr: 0, Value: 9}, api.Note{Op: 6, Addr: 0, Value: 9}, api.Note{Op: 9, Addr: 0, Value: 9}, api.Note{Op: -7, Addr: -1, Value: 9}), valid(1, r(0, 5))}, -1},
		{"the first of several in the list, not in the order", []int{5}, []api.Attempt{valid(5), valid(4, r(0, 1)), valid(3), valid(2, r(0, 1))}, 1},
	})
}

// anyHistory has few places and words, so that they often meet, and mostly reads what it has to.
func (d *dice) anyHistory() ([]int, []api.Attempt) {
	mem := make([]int, d.roll(4))
	for i := range mem {
		mem[i] = d.roll(9)
	}
	h := make([]api.Attempt, d.roll(9))
	few := 1 + d.roll(30)
	for i := range h {
		h[i] = api.Attempt{Thread: d.roll(4), Job: d.roll(8), Fate: d.roll(6), Valid: d.roll(few), Start: d.roll(few), End: d.roll(2 * few)}
		if d.roll(2) == 0 {
			h[i].Stamp = d.roll(few) - 1
		}
		if d.roll(3) > 0 {
			// Then nothing ends before another one begins.
			h[i].Start = 0
		}
		if d.roll(15) == 0 {
			h[i].Valid, h[i].Stamp, h[i].Start, h[i].End = d.anyNumber(), d.anyNumber(), d.anyNumber(), d.anyNumber()
		}
		for range d.roll(6) {
			n := api.Note{Op: 7 + d.roll(2), Addr: d.roll(max(1, len(mem))), Value: d.roll(9)}
			if d.roll(60) == 0 {
				n = api.Note{Op: d.anyNumber(), Addr: d.anyNumber(), Value: d.anyNumber()}
			}
			h[i].Notes = append(h[i].Notes, n)
		}
	}
	for i, a := range h {
		for k, n := range a.Notes {
			if n.Op == api.Read && n.Addr >= 0 && n.Addr < len(mem) && d.roll(12) > 0 {
				a.Notes[k].Value = dueValue(mem, h, i, k)
			}
		}
	}
	return mem, h
}

func copyHistory(h []api.Attempt) []api.Attempt {
	h = slices.Clone(h)
	for i := range h {
		h[i].Notes = slices.Clone(h[i].Notes)
	}
	return h
}

func TestJudgeAsWorded(t *testing.T) {
	d := dice{state: 13}
	sound, by := 0, [3]int{}
	answers := map[int]int{}
	for range 60000 {
		mem, h := d.anyHistory()
		memBefore, before := slices.Clone(mem), copyHistory(h)
		n, want := Judge(mem, h), judgedPlainly(mem, h)
		if n != want {
			t.Fatalf("P12: %v, %s: %d, want %d", mem, toldAll(h), n, want)
		}
		if !slices.Equal(mem, memBefore) || toldAll(h) != toldAll(before) {
			t.Fatalf("P2: %v, %s: written into", memBefore, toldAll(before))
		}
		if Judge(mem, h) != n {
			t.Fatalf("P2: %v, %s: another answer", mem, toldAll(h))
		}
		answers[n]++
		if n == -1 && len(h) > 2 {
			sound++
		}
		// How often a single condition made the answer.
		if n != -1 {
			switch unsoundBy(mem, h, n) {
			case [3]bool{true, false, false}:
				by[0]++
			case [3]bool{false, true, false}:
				by[1]++
			case [3]bool{false, false, true}:
				by[2]++
			}
		}
	}
	if sound < 500 || slices.Min(by[:]) < 500 || len(answers) < 9 {
		t.Errorf("too few of a kind: %d are sound, not so by single conditions %v, answers %v", sound, by, answers)
	}
}

// A history as it was played, with one number of it changed.
func TestJudgeOfChangedHistories(t *testing.T) {
	d := dice{state: 14}
	unsound := 0
	for range 3000 {
		s := d.crowdSetup()
		h, _ := History(s, d.crowdPicks(s.Config.Threads))
		if len(h) == 0 {
			continue
		}
		i := d.roll(len(h))
		var reads []int
		for k, n := range h[i].Notes {
			if n.Op == api.Read {
				reads = append(reads, k)
			}
		}
		if len(reads) > 0 {
			k := reads[d.roll(len(reads))]
			h[i].Notes[k].Value ^= 1 << d.roll(16)
			if n := Judge(s.Mem, h); n != i {
				t.Fatalf("P12: %v, %s: %d, but attempt %d read something else", s.Mem, toldAll(h), n, i)
			}
		}
		h, _ = History(s, d.crowdPicks(s.Config.Threads))
		for range 1 + d.roll(2) {
			if len(h) == 0 {
				continue
			}
			a := &h[d.roll(len(h))]
			number := []*int{&a.Start, &a.End, &a.Valid, &a.Stamp}[d.roll(4)]
			*number += d.roll(9) - 4
		}
		n, want := Judge(s.Mem, h), judgedPlainly(s.Mem, h)
		if n != want {
			t.Fatalf("P12: %v, %s: %d, want %d", s.Mem, toldAll(h), n, want)
		}
		if n != -1 {
			unsound++
		}
	}
	if unsound < 300 {
		t.Errorf("only %d histories became unsound", unsound)
	}
}

// Long histories are no trouble, in whatever order they come.
func TestJudgeOfLongHistories(t *testing.T) {
	const many = 1 << 17
	for _, step := range []int{1, many - 1, 77777} {
		mem := make([]int, 1000)
		h := make([]api.Attempt, many)
		for i := range many {
			stamp := 1 + i*step%many
			addr := stamp % len(mem)
			h[i] = api.Attempt{Start: 2 * stamp, End: 2*stamp + 1, Stamp: stamp, Notes: []api.Note{noteRead(addr, max(0, stamp-len(mem))), noteWrite(addr, stamp)}}
		}
		if n := Judge(mem, h); n != -1 {
			t.Errorf("P12: a long history: %d", n)
		}
		h[many-3].Notes[0].Value++
		if n := Judge(mem, h); n != many-3 {
			t.Errorf("P12: a long history, a read changed: %d", n)
		}
		h[many-5].Stamp = h[9].Stamp
		if n, want := Judge(mem, h), many-5; n > want || n < 0 {
			t.Errorf("P12: a long history, a stamp changed: %d", n)
		}
	}
	notes := slices.Repeat([]api.Note{noteWrite(0, 1), noteRead(0, 1), noteWrite(0, 2), noteRead(0, 2)}, many)
	if n := Judge([]int{0}, []api.Attempt{valid(3, notes...), valid(3, noteRead(0, 0))}); n != -1 {
		t.Errorf("P12: long notes: %d", n)
	}
}
