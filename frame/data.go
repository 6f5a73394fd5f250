package frame

import (
	"math"

	"tocsin/api"
)

// Where the fields ahead of a data frame's payload end.
const (
	classEnd  = markSize + 1
	linkEnd   = classEnd + 1
	numberEnd = linkEnd + 4
	lengthEnd = numberEnd + 2
)

// Data is a data frame's bytes.
func Data(d api.Data) ([]byte, api.Errno) {
	if !rightData(d) {
		return nil, api.ErrArg
	}
	b := put(make([]byte, 0, d.Size), dataMark, markSize)
	b = put(b, uint64(d.Class), classEnd-markSize)
	b = put(b, uint64(d.Link), linkEnd-classEnd)
	b = put(b, uint64(d.Number), numberEnd-linkEnd)
	b = put(b, uint64(len(d.Payload)), lengthEnd-numberEnd)
	b = append(b, d.Payload...)
	b = put(b, 0, d.Size-sumSize-len(b))
	return seal(b), api.OK
}

// ReadData reads a data frame.
func ReadData(b []byte) (api.Data, api.Errno) {
	if e := check(b, isData, api.MinSize, api.MaxSize); e != api.OK {
		return api.Data{}, e
	}
	rest := b[lengthEnd : len(b)-sumSize]
	length := int(number(b[numberEnd:lengthEnd]))
	if length > len(rest) || !blank(rest[length:]) {
		return api.Data{}, api.ErrForm
	}
	d := api.Data{
		Class:   int(number(b[markSize:classEnd])),
		Link:    int(number(b[classEnd:linkEnd])),
		Number:  int(number(b[linkEnd:numberEnd])),
		Payload: string(rest[:length]),
		Size:    len(b),
	}
	if !rightData(d) {
		return api.Data{}, api.ErrForm
	}
	return d, api.OK
}

// rightData tells whether each field of a data frame is in its range, and the payload has room.
func rightData(d api.Data) bool {
	return (d.Class == api.Timed || d.Class == api.Rated || d.Class == api.Effort) &&
		d.Link >= 0 && d.Link <= math.MaxUint8 &&
		d.Number >= 0 && d.Number <= math.MaxInt32 &&
		d.Size >= api.MinSize && d.Size <= api.MaxSize &&
		len(d.Payload) <= d.Size-lengthEnd-sumSize
}
