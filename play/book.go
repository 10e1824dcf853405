package play

import "opaque/api"

// book gathers the attempts of all threads in the order in which they began.
type book struct {
	attempts []api.Attempt
	latest   [api.MaxThreads]int // the place of each thread's latest attempt
}

// enter lays down an attempt as it stands behind the pick of that number, which was one of its thread's. Of the same attempt it takes the place of what was laid down before.
func (b *book) enter(told api.Attempt, number int) {
	if told.Start == number {
		b.latest[told.Thread] = len(b.attempts)
		b.attempts = append(b.attempts, told)
		return
	}
	b.attempts[b.latest[told.Thread]] = told
}
