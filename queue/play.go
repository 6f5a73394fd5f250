package queue

import "tocsin/api"

// The kinds of calls.
const (
	opPush = 1
	opPop  = 2
	opPeek = 3
	opLen  = 4
	opDrop = 5
)

// Op is a call.
type Op struct {
	Kind             int
	Time, Rank, Node int64
	Thing            int
}

// Told is its answer.
type Told struct {
	Thing int
	Time  int64
	OK    bool
	N     int
}

// Play does calls.
func Play(most int, ops []Op) []Told {
	q := New[int](most)
	told := make([]Told, len(ops))
	for i, op := range ops {
		told[i] = play(q, op)
	}
	return told
}

func play(q *Queue[int], op Op) Told {
	var t Told
	switch op.Kind {
	case opPush:
		t.OK = q.Push(op.Time, op.Rank, op.Node, op.Thing) == api.OK
	case opPop:
		t.Thing, t.Time, t.OK = q.Pop()
	case opPeek:
		t.Thing, t.Time, t.OK = q.Peek()
	case opLen:
		t.N = q.Len()
	case opDrop:
		t.N = q.Drop(func(thing int) bool { return thing >= op.Thing })
	}
	return t
}
