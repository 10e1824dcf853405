// Package check finds the error of what is handed in, ahead of everything that relies on it.
package check

import (
	"opaque/api"
	"opaque/bounds"
)

// Setup tells the error of a setup. Each kind of error is looked for in all jobs before the next kind, for the one named first counts.
func Setup(s api.Setup) api.Errno {
	e := world(s.Config, s.Mem)
	if e != api.OK {
		return e
	}
	if !jobsFit(s.Config.Threads, s.Jobs) {
		return api.ErrJobs
	}
	for _, job := range s.Jobs {
		if !codeFits(job.Code) {
			return api.ErrCode
		}
	}
	return api.OK
}

// Single tells the error of one code that is to run for itself.
func Single(c api.Config, mem []int, code []api.Ins) api.Errno {
	e := world(c, mem)
	if e != api.OK {
		return e
	}
	if !codeFits(code) {
		return api.ErrCode
	}
	return api.OK
}

// world tells the error of what setups and single codes have in common.
func world(c api.Config, mem []int) api.Errno {
	if !configFits(c) {
		return api.ErrConfig
	}
	if !memFits(c.Words, mem) {
		return api.ErrMemory
	}
	return api.OK
}

func configFits(c api.Config) bool {
	return bounds.Within(c.Threads, 1, api.MaxThreads) &&
		bounds.Within(c.Words, 1, api.MaxWords) &&
		bounds.Within(c.Stripes, 1, api.MaxStripes) &&
		bounds.Within(c.Greedy, 0, api.MaxGreedy) &&
		bounds.Within(c.Retry, 0, api.MaxRetry) &&
		bounds.Within(c.Cap, 0, api.MaxCap) &&
		bounds.Within(c.Fuel, 1, api.MaxFuel)
}

func memFits(words int, mem []int) bool {
	if len(mem) != words {
		return false
	}
	for _, value := range mem {
		if !bounds.Within(value, 0, api.MaxValue) {
			return false
		}
	}
	return true
}

func jobsFit(threads int, jobs []api.Job) bool {
	if len(jobs) > api.MaxJobs {
		return false
	}
	for _, job := range jobs {
		if !bounds.Within(job.Thread, 0, threads-1) {
			return false
		}
	}
	return true
}

func codeFits(code []api.Ins) bool {
	return len(code) <= api.MaxCode
}
