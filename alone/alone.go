// Package alone runs one code over words that nobody else touches.
package alone

import (
	"opaque/api"
	"opaque/machine"
)

// Run tells what comes of the code, and the words behind it in a list of their own.
func Run(fuel int, mem []int, code []api.Ins) (api.Result, []int) {
	words := copyOf(mem)
	m := machine.Machine{}
	turn := m.Next(code, fuel, len(words))
	// Every turn of a machine costs fuel, so this ends.
	for turn.Fate == api.Open {
		if turn.Op == api.Read {
			m.Give(words[turn.Addr])
		} else {
			words[turn.Addr] = turn.Value
		}
		turn = m.Next(code, fuel, len(words))
	}
	if turn.Fate != api.Done {
		words = copyOf(mem)
	}
	return api.Result{Fate: turn.Fate, Regs: m.Regs}, words
}

func copyOf(list []int) []int {
	own := make([]int, len(list))
	copy(own, list)
	return own
}
