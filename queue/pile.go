package queue

import "cmp"

// item is a thing with what it is ordered by; place is its place among all that were ever taken in.
type item[T any] struct {
	time, rank, node, place int64
	thing                   T
}

// order is below 0, if a stands ahead of b.
func order[T any](a, b item[T]) int {
	return cmp.Or(
		cmp.Compare(a.time, b.time),
		cmp.Compare(a.rank, b.rank),
		cmp.Compare(a.node, b.node),
		cmp.Compare(a.place, b.place),
	)
}

// pile holds items as container/heap asks: ordered as far as needed to tell the first.
type pile[T any] []item[T]

func (p pile[T]) Len() int { return len(p) }

func (p pile[T]) Less(i, j int) bool { return order(p[i], p[j]) < 0 }

func (p pile[T]) Swap(i, j int) { p[i], p[j] = p[j], p[i] }

// Push is for container/heap alone.
func (p *pile[T]) Push(x any) { *p = append(*p, x.(item[T])) }

// Pop is for container/heap alone.
func (p *pile[T]) Pop() any {
	last := len(*p) - 1
	x := (*p)[last]
	// What was taken out isn't kept, not even in spare room.
	(*p)[last] = item[T]{}
	*p = (*p)[:last]
	return x
}
