package judge

import "opaque/api"

// inOrder tells the numbers of all attempts, each one behind those that are ahead of it.
func inOrder(h []api.Attempt) []int {
	order := make([]int, len(h))
	for i := range order {
		order[i] = i
	}
	for width := 1; width < len(order); width *= 2 {
		order = mergeRuns(h, order, width)
	}
	return order
}

// mergeRuns makes each two neighbouring runs of that width, which are in order, one run in order.
func mergeRuns(h []api.Attempt, order []int, width int) []int {
	merged := make([]int, 0, len(order))
	for from := 0; from < len(order); from += 2 * width {
		left := from
		middle := least(from+width, len(order))
		right := middle
		end := least(from+2*width, len(order))
		for left < middle || right < end {
			if right == end || left < middle && ahead(h, order[left], order[right]) {
				merged = append(merged, order[left])
				left++
			} else {
				merged = append(merged, order[right])
				right++
			}
		}
	}
	return merged
}

// place is where an attempt stands in the order of all.
type place struct {
	time  int
	after int // 1 if it comes behind the attempt whose stamp is this time
}

func placeOf(a api.Attempt) place {
	if a.Stamp > 0 {
		return place{time: a.Stamp}
	}
	return place{time: a.Valid, after: 1}
}

// ahead tells whether the attempt of the first number is ahead of that of the second.
func ahead(h []api.Attempt, first int, second int) bool {
	p := placeOf(h[first])
	q := placeOf(h[second])
	if p.time != q.time {
		return p.time < q.time
	}
	if p.after != q.after {
		return p.after < q.after
	}
	return first < second
}

func least(a int, b int) int {
	if a < b {
		return a
	}
	return b
}
