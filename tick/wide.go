package tick

import (
	"math/bits"

	"tocsin/api"
)

// wide is a whole number of 128 bits, in two's complement: room for any product of two counts, and any sum of a list.
type wide struct{ hi, lo uint64 }

func widen(n int64) wide { return wide{uint64(n >> 63), uint64(n)} }

func product(a, b int64) wide {
	hi, lo := bits.Mul64(uint64(a), uint64(b))
	// Mul64 takes a factor below 0 for one greater by 2^64, so it counts the other factor 2^64 times too often.
	hi -= uint64(a>>63) & uint64(b)
	hi -= uint64(b>>63) & uint64(a)
	return wide{hi, lo}
}

func (w wide) plus(v wide) wide {
	lo, carry := bits.Add64(w.lo, v.lo, 0)
	hi, _ := bits.Add64(w.hi, v.hi, carry)
	return wide{hi, lo}
}

func (w wide) minus(v wide) wide {
	lo, borrow := bits.Sub64(w.lo, v.lo, 0)
	hi, _ := bits.Sub64(w.hi, v.hi, borrow)
	return wide{hi, lo}
}

// over is the greatest whole number not above the quotient; c is above 0.
func (w wide) over(c uint64) wide {
	// With all bits flipped, a number below 0 is one from 0 on, and the quotient flipped back is rounded down, not toward 0.
	flip := uint64(int64(w.hi) >> 63)
	hi, rest := bits.Div64(0, w.hi^flip, c)
	lo, _ := bits.Div64(rest, w.lo^flip, c)
	return wide{hi ^ flip, lo ^ flip}
}

// narrow gives up where the number is none of 64 bits.
func (w wide) narrow() int64 {
	n := int64(w.lo)
	if widen(n) != w {
		panic(api.ErrRange)
	}
	return n
}
