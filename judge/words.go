package judge

import (
	"opaque/api"
	"opaque/bounds"
)

// words are the values as the attempts leave them, one behind the other.
type words struct {
	values []int
	undo   []change // of the attempt that is being replayed
}

// change is what stood in a word ahead of a Write.
type change struct {
	addr int
	old  int
}

func newWords(mem []int) words {
	w := words{values: make([]int, len(mem))}
	copy(w.values, mem)
	return w
}

// replay goes through the notes of an attempt, and tells whether all it read is what it had to. What it wrote stays if it has a stamp.
func (w *words) replay(a api.Attempt) bool {
	w.undo = nil
	right := true
	for _, note := range a.Notes {
		isWord := bounds.Within(note.Addr, 0, len(w.values)-1)
		switch note.Op {
		case api.Read:
			if !isWord || w.values[note.Addr] != note.Value {
				right = false
			}
		case api.Write:
			// A word that there is not can't be read either.
			if isWord {
				w.put(note.Addr, note.Value)
			}
		}
	}
	if a.Stamp <= 0 {
		w.takeBack()
	}
	return right
}

func (w *words) put(addr int, value int) {
	w.undo = append(w.undo, change{addr: addr, old: w.values[addr]})
	w.values[addr] = value
}

// takeBack goes from the last change to the first, for a word may have been written more than once.
func (w *words) takeBack() {
	for i := len(w.undo) - 1; i >= 0; i-- {
		w.values[w.undo[i].addr] = w.undo[i].old
	}
}
