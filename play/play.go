// Package play lets the threads of a setup make their accesses, pick by pick.
package play

import (
	"opaque/api"
	"opaque/bounds"
	"opaque/cells"
	"opaque/thread"
)

// world is all threads and what they share. The setup that it is made from must be free of errors.
type world struct {
	shared  cells.Cells
	threads []thread.Thread
}

// Accesses tells the access of each pick.
func Accesses(s api.Setup, picks []api.Pick) []api.Access {
	w := begin(s)
	accesses := make([]api.Access, len(picks))
	for i, pick := range picks {
		accesses[i] = w.pick(s.Jobs, pick)
	}
	return accesses
}

// Cells tells all cells behind the picks.
func Cells(s api.Setup, picks []api.Pick) []int {
	w := begin(s)
	for _, pick := range picks {
		w.pick(s.Jobs, pick)
	}
	return w.shared.Numbers()
}

func begin(s api.Setup) world {
	w := world{shared: cells.New(s.Config, s.Mem)}
	for number := 0; number < s.Config.Threads; number++ {
		w.threads = append(w.threads, thread.New(s.Config, number, s.Jobs))
	}
	return w
}

func (w *world) pick(jobs []api.Job, pick api.Pick) api.Access {
	if !bounds.Within(pick.Thread, 0, len(w.threads)-1) {
		return api.Access{}
	}
	return w.threads[pick.Thread].Pick(jobs, &w.shared, pick.Draw)
}
