// Package play lets the threads of a setup make their accesses, pick by pick.
package play

import (
	"opaque/api"
	"opaque/bounds"
	"opaque/cells"
	"opaque/thread"
)

// world is all threads and what they share. The setup that it is made from must be free of errors.
type world struct {
	shared  cells.Cells
	threads []thread.Thread
	picked  int // how many picks there were
}

// Accesses tells the access of each pick.
func Accesses(s api.Setup, picks []api.Pick) []api.Access {
	w := begin(s)
	accesses := make([]api.Access, len(picks))
	for i, pick := range picks {
		accesses[i] = w.pick(s.Jobs, pick)
	}
	return accesses
}

// Cells tells all cells behind the picks.
func Cells(s api.Setup, picks []api.Pick) []int {
	w := behind(s, picks)
	return w.shared.Numbers()
}

// Jobs tells the results of all jobs behind the picks.
func Jobs(s api.Setup, picks []api.Pick) []api.Result {
	w := behind(s, picks)
	results := make([]api.Result, len(s.Jobs))
	for i, job := range s.Jobs {
		results[i] = w.threads[job.Thread].Result(i)
	}
	return results
}

// History tells all attempts behind the picks, in the order in which they began.
func History(s api.Setup, picks []api.Pick) []api.Attempt {
	w := begin(s)
	b := book{}
	for _, pick := range picks {
		access := w.pick(s.Jobs, pick)
		// Where an access was made, there is such a thread, and it has begun an attempt.
		if access.Kind != api.None {
			told := w.threads[pick.Thread].Told()
			b.enter(told, w.picked)
		}
	}
	return b.attempts
}

func begin(s api.Setup) world {
	w := world{shared: cells.New(s.Config, s.Mem)}
	for number := 0; number < s.Config.Threads; number++ {
		w.threads = append(w.threads, thread.New(s.Config, number, s.Jobs))
	}
	return w
}

func behind(s api.Setup, picks []api.Pick) world {
	w := begin(s)
	for _, pick := range picks {
		w.pick(s.Jobs, pick)
	}
	return w
}

func (w *world) pick(jobs []api.Job, pick api.Pick) api.Access {
	w.picked++
	if !bounds.Within(pick.Thread, 0, len(w.threads)-1) {
		return api.Access{}
	}
	return w.threads[pick.Thread].Pick(jobs, &w.shared, w.picked, pick.Draw)
}
