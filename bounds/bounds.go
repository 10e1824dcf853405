// Package bounds says whether numbers are where they may be.
package bounds

// Within tells whether n is neither below least nor above most.
func Within(n int, least int, most int) bool {
	return n >= least && n <= most
}
