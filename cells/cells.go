// Package cells holds the numbers that all threads share, and makes accesses to them.
package cells

import "opaque/api"

// The cells that there are once. Behind them lie those of the stripes, the threads and the words.
const (
	Clock   = 0
	Tickets = 1
	Gate    = 2
	others  = 3
)

// Version is the cell of a stripe's version.
func Version(stripe int) int {
	return others + stripe
}

// Owner is the cell of a stripe's owner.
func Owner(c api.Config, stripe int) int {
	return others + c.Stripes + stripe
}

// Status is the cell of a thread's status.
func Status(c api.Config, thread int) int {
	return others + 2*c.Stripes + thread
}

// Word is the cell of a word.
func Word(c api.Config, addr int) int {
	return others + 2*c.Stripes + c.Threads + addr
}

// Order is an access that is yet to be made. From counts for a Swap alone, Put for a Store and a Swap.
type Order struct {
	Kind int
	Cell int
	From int
	Put  int
}

// Cells are the numbers as they stand.
type Cells struct {
	numbers []int
}

// New lays out the cells as they are at the beginning: 0, but for the words.
func New(c api.Config, mem []int) Cells {
	numbers := make([]int, Word(c, len(mem)))
	copy(numbers[Word(c, 0):], mem)
	return Cells{numbers: numbers}
}

// Make makes the access that was ordered. Its cell must be one that the functions above tell for the config of these cells.
func (c *Cells) Make(o Order) api.Access {
	seen := c.numbers[o.Cell]
	put := seen
	switch o.Kind {
	case api.Store:
		put = o.Put
	case api.Swap:
		if seen == o.From {
			put = o.Put
		}
	case api.Take:
		put = seen + 1
	}
	c.numbers[o.Cell] = put
	return api.Access{Kind: o.Kind, Cell: o.Cell, Seen: seen, Put: put}
}

// Numbers tells all cells, in a list of its own.
func (c *Cells) Numbers() []int {
	own := make([]int, len(c.numbers))
	copy(own, c.numbers)
	return own
}
