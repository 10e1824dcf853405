// Package opaque plays threads that run transactions over shared words: see DOC.md.
package opaque

import (
	"opaque/alone"
	"opaque/api"
	"opaque/check"
	"opaque/judge"
	"opaque/play"
)

// Check tells whether a setup is one (P3).
func Check(s api.Setup) api.Errno { return check.Setup(s) }

// Alone runs a code for itself (P4).
func Alone(c api.Config, mem []int, code []api.Ins) (api.Result, []int, api.Errno) {
	e := check.Single(c, mem, code)
	if e != api.OK {
		return api.Result{}, nil, e
	}
	result, words := alone.Run(c.Fuel, mem, code)
	return result, words, api.OK
}

// Play tells the access of each pick (P5).
func Play(s api.Setup, picks []api.Pick) ([]api.Access, api.Errno) {
	e := check.Setup(s)
	if e != api.OK {
		return nil, e
	}
	return play.Accesses(s, picks), api.OK
}

// Cells tells what stands in the cells behind the picks (P6).
func Cells(s api.Setup, picks []api.Pick) ([]int, api.Errno) {
	e := check.Setup(s)
	if e != api.OK {
		return nil, e
	}
	return play.Cells(s, picks), api.OK
}

// Jobs tells what has come of the jobs (P8).
func Jobs(s api.Setup, picks []api.Pick) ([]api.Result, api.Errno) {
	e := check.Setup(s)
	if e != api.OK {
		return nil, e
	}
	return play.Jobs(s, picks), api.OK
}

// History tells all attempts (P9).
func History(s api.Setup, picks []api.Pick) ([]api.Attempt, api.Errno) {
	e := check.Setup(s)
	if e != api.OK {
		return nil, e
	}
	return play.History(s, picks), api.OK
}

// Judge tells the first attempt that is not sound (P12).
func Judge(mem []int, h []api.Attempt) int { return judge.First(mem, h) }
