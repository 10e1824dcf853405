// Package judge tells whether the attempts of a history are sound. It lays them into the order of their places once, so that each condition is seen on one walk along that order.
package judge

import "opaque/api"

// First tells the number of the first attempt in the list that is not sound, or -1.
func First(mem []int, h []api.Attempt) int {
	order := inOrder(h)
	first := firstDouble(h, order)
	first = least(first, firstLate(h, order))
	first = least(first, firstMisled(mem, h, order))
	if first == len(h) {
		return -1
	}
	return first
}

// Of the functions below each looks at one condition. They tell the least number of an attempt that does not meet it, or the length of the list.

// firstDouble looks for stamps that an earlier attempt has. In order these are neighbours, the earlier one first.
func firstDouble(h []api.Attempt, order []int) int {
	first := len(h)
	for i := 1; i < len(order); i++ {
		stamp := h[order[i]].Stamp
		if stamp > 0 && stamp == h[order[i-1]].Stamp {
			first = least(first, order[i])
		}
	}
	return first
}

// firstLate looks for attempts that began when one behind them in the order had ended.
func firstLate(h []api.Attempt, order []int) int {
	first := len(h)
	soonest := 0 // the least End of those behind, or 0 as long as none has ended
	for i := len(order) - 1; i >= 0; i-- {
		a := h[order[i]]
		if soonest > 0 && soonest < a.Start {
			first = least(first, order[i])
		}
		if a.End > 0 && (soonest == 0 || a.End < soonest) {
			soonest = a.End
		}
	}
	return first
}

// firstMisled looks for attempts that read something else than they would one behind the other.
func firstMisled(mem []int, h []api.Attempt, order []int) int {
	first := len(h)
	w := newWords(mem)
	for _, number := range order {
		right := w.replay(h[number])
		if !right {
			first = least(first, number)
		}
	}
	return first
}
